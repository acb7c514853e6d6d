/-
  Texts put together: VNum, VNum2, VOrd, VDl, DNum, DBackN, DTk, RnForm, DSetN, DSgN.
-/
import Derived.Lib.ItoaNum
import Derived.WalkKit
namespace Go.Proofs.YtigmhnlcmhpepaaGreatDoor
namespace Sc

def pk (xs : List Int) (i : Nat) : Int := xs.getD i 0
def dg (x : Int) : Bool := decide (48 ≤ x) && decide (x ≤ 57)
def bl (x : Int) : Bool := decide (x = 32) || (decide (9 ≤ x) && decide (x ≤ 13))
/-- How many bytes from place i on have p, one behind the other. -/
def run (p : Int → Bool) (xs : List Int) (i : Nat) : Nat := ((xs.drop i).takeWhile p).length
def sg (xs : List Int) (i : Nat) : Nat := if pk xs i = 43 ∨ pk xs i = 45 then 1 else 0

theorem dg_iff {x : Int} : dg x = true ↔ 48 ≤ x ∧ x ≤ 57 := by simp [dg]
theorem bl_iff {x : Int} : bl x = true ↔ x = 32 ∨ (9 ≤ x ∧ x ≤ 13) := by simp [bl]
theorem bl_not {x : Int} : bl x = false ↔ ¬ (x = 32 ∨ (9 ≤ x ∧ x ≤ 13)) := by rw [← bl_iff]; simp

theorem pk_ge {xs : List Int} {i : Nat} (h : xs.length ≤ i) : pk xs i = 0 := by simp [pk, List.getD, List.getElem?_eq_none h]
theorem pk_take (xs : List Int) (m i : Nat) : pk (xs.take m) i = if i < m then pk xs i else 0 := by
  unfold pk
  by_cases h : i < m
  · simp [List.getD, h]
  · simp [List.getD, List.getElem?_take, h]
theorem run_step {p : Int → Bool} (hp : p 0 = false) (xs : List Int) (i : Nat) : run p xs i = if p (pk xs i) = true then run p xs (i + 1) + 1 else 0 := by
  unfold run
  rcases Nat.lt_or_ge i xs.length with h | h
  · rw [List.drop_eq_getElem_cons h, List.takeWhile_cons]
    have e : pk xs i = xs[i] := by simp [pk, List.getD, h]
    rw [e]
    split <;> simp
  · rw [List.drop_of_length_le h, pk_ge h, hp]
    simp

theorem run_zero {p : Int → Bool} (hp : p 0 = false) {xs : List Int} {i : Nat} (h : p (pk xs i) = false) : run p xs i = 0 := by
  rw [run_step hp, h]; simp
theorem run_succ {p : Int → Bool} (hp : p 0 = false) {xs : List Int} {i : Nat} (h : p (pk xs i) = true) : run p xs i = run p xs (i + 1) + 1 := by
  rw [run_step hp, h]; simp
theorem run_pos {p : Int → Bool} (hp : p 0 = false) {xs : List Int} {i : Nat} (h : 0 < run p xs i) : p (pk xs i) = true := by
  cases c : p (pk xs i) with
  | true => rfl
  | false => rw [run_zero hp c] at h; omega
theorem run_all {p : Int → Bool} {xs : List Int} {i : Nat} : ∀ j, j < run p xs i → p (pk xs (i + j)) = true := by
  intro j hj
  have h1 := List.takeWhile_prefix p (l := xs.drop i)
  obtain ⟨t, ht⟩ := h1
  have h2 : (xs.drop i)[j]? = ((xs.drop i).takeWhile p)[j]? := by
    conv => lhs; rw [← ht]
    rw [List.getElem?_append_left hj]
  rw [List.getElem?_drop, List.getElem?_eq_getElem hj] at h2
  have h3 : pk xs (i + j) = ((xs.drop i).takeWhile p)[j] := by simp [pk, List.getD, h2]
  rw [h3]
  have := List.all_takeWhile (p := p) (l := xs.drop i)
  rw [List.all_eq_true] at this
  exact this _ (List.getElem_mem hj)
theorem run_end {p : Int → Bool} (hp : p 0 = false) {xs : List Int} : ∀ (n i : Nat), run p xs i = n → p (pk xs (i + n)) = false := by
  intro n
  induction n with
  | zero =>
    intro i h
    rw [Nat.add_zero]
    cases c : p (pk xs i) with
    | false => rfl
    | true => rw [run_succ hp c] at h; omega
  | succ n ih =>
    intro i h
    have h1 := run_pos hp (show 0 < run p xs i by omega)
    rw [run_succ hp h1] at h
    have := ih (i + 1) (by omega)
    rw [show i + (n + 1) = i + 1 + n by omega]
    exact this
/-- A run is what it is: n bytes have p, the next one has not. -/
theorem run_is {p : Int → Bool} (hp : p 0 = false) {xs : List Int} : ∀ (n i : Nat), (∀ j, j < n → p (pk xs (i + j)) = true) → p (pk xs (i + n)) = false → run p xs i = n := by
  intro n
  induction n with
  | zero => intro i _ h; exact run_zero hp h
  | succ n ih =>
    intro i h1 h2
    have h0 := h1 0 (by omega)
    rw [Nat.add_zero] at h0
    rw [run_succ hp h0]
    rw [ih (i + 1) (fun j hj => by rw [show i + 1 + j = i + (j + 1) by omega]; exact h1 (j + 1) (by omega)) (by rw [show i + 1 + n = i + (n + 1) by omega]; exact h2)]
theorem run_take {p : Int → Bool} (hp : p 0 = false) (xs : List Int) (m i : Nat) : run p (xs.take m) i = min (run p xs i) (m - i) := by
  apply run_is hp
  · intro j hj
    rw [pk_take, if_pos (by omega)]
    exact run_all j (by omega)
  · rw [pk_take]
    by_cases c : i + min (run p xs i) (m - i) < m
    · rw [if_pos c, show min (run p xs i) (m - i) = run p xs i by omega]
      exact run_end hp _ _ rfl
    · rw [if_neg c]; exact hp

theorem dg0 : dg 0 = false := rfl
theorem bl0 : bl 0 = false := rfl

/-- A literal's parts: its sign, the digits ahead of and behind the point, the exponent that is written, the place behind it. -/
structure Lt where
  neg : Bool
  ah : List Int
  bh : List Int
  sc : Int
  en : Nat

/-- An exponent's digits as a number, cut at 10^15. -/
def cap (l : List Int) : Int := l.foldl (fun s x => min (10 * s + (x - 48)) 1000000000000000) 0
/-- Where the digits behind the sign begin. -/
def p1 (xs : List Int) (k : Nat) : Nat := k + sg xs k
/-- Where they end. -/
def p2 (xs : List Int) (k : Nat) : Nat := p1 xs k + run dg xs (p1 xs k)
/-- How many digits stand behind the point. -/
def bn (xs : List Int) (k : Nat) : Nat := if pk xs (p2 xs k) = 46 then run dg xs (p2 xs k + 1) else 0
/-- The place behind the digits and the point. -/
def p3 (xs : List Int) (k : Nat) : Nat := if pk xs (p2 xs k) = 46 then p2 xs k + 1 + run dg xs (p2 xs k + 1) else p2 xs k
/-- Where the exponent's digits begin, behind a letter at t. -/
def p4 (xs : List Int) (t : Nat) : Nat := t + 1 + sg xs (t + 1)
def isE (x : Int) : Bool := decide (x = 101) || decide (x = 69)
/-- Has it an exponent? -/
def hasE (xs : List Int) (t : Nat) : Bool := isE (pk xs t) && dg (pk xs (p4 xs t))
def some? (xs : List Int) (k : Nat) : Prop := run dg xs (p1 xs k) + bn xs k ≠ 0
instance (xs : List Int) (k : Nat) : Decidable (some? xs k) := inferInstanceAs (Decidable (_ ≠ _))
def lit (xs : List Int) (k : Nat) : Lt :=
  { neg := decide (pk xs k = 45)
    ah := (xs.drop (p1 xs k)).take (run dg xs (p1 xs k))
    bh := (xs.drop (p2 xs k + 1)).take (bn xs k)
    sc := if hasE xs (p3 xs k) = true then (if pk xs (p3 xs k + 1) = 45 then - cap ((xs.drop (p4 xs (p3 xs k))).take (run dg xs (p4 xs (p3 xs k)))) else cap ((xs.drop (p4 xs (p3 xs k))).take (run dg xs (p4 xs (p3 xs k))))) else 0
    en := if hasE xs (p3 xs k) = true then p4 xs (p3 xs k) + run dg xs (p4 xs (p3 xs k)) else p3 xs k }
def rd (xs : List Int) (k : Nat) : Option Lt := if some? xs k then some (lit xs k) else none

theorem sg_take (xs : List Int) (m i : Nat) (h : i < m) : sg (xs.take m) i = sg xs i := by simp only [sg, pk_take, if_pos h]
theorem sg_past (xs : List Int) (m i : Nat) (h : m ≤ i) : sg (xs.take m) i = 0 := by simp only [sg, pk_take, if_neg (show ¬ i < m by omega)]; simp

theorem en_eq (xs : List Int) (k : Nat) : (lit xs k).en = if hasE xs (p3 xs k) = true then p4 xs (p3 xs k) + run dg xs (p4 xs (p3 xs k)) else p3 xs k := rfl
theorem p2_p3 (xs : List Int) (k : Nat) : p2 xs k ≤ p3 xs k := by unfold p3; split <;> omega
/-- What is no literal is none in any beginning. -/
theorem rd_none_take {xs : List Int} {k m : Nat} (h : ¬ some? xs k) (hk : k < m) : ¬ some? (xs.take m) k := by
  unfold some? at *
  have h1 : run dg xs (p1 xs k) = 0 := by omega
  have h2 : bn xs k = 0 := by omega
  have e1 : p1 (xs.take m) k = p1 xs k := by unfold p1; rw [sg_take _ _ _ hk]
  have e2 : run dg (xs.take m) (p1 xs k) = 0 := by rw [run_take dg0]; omega
  have e3 : p2 (xs.take m) k = p2 xs k := by unfold p2; rw [e1, e2, h1]
  rw [e1, e2]
  have e4 : bn (xs.take m) k = 0 := by
    unfold bn at *
    rw [e3, pk_take, run_take dg0]
    by_cases c : p2 xs k < m
    · rw [if_pos c]
      split
      · next c2 => rw [if_pos c2] at h2; omega
      · rfl
    · rw [if_neg c]; simp
  omega
theorem rd_none_past {xs : List Int} {k m : Nat} (hk : m ≤ k) : ¬ some? (xs.take m) k := by
  unfold some?
  have z : ∀ i, m ≤ i → pk (xs.take m) i = 0 := fun i hi => by rw [pk_take, if_neg (by omega)]
  have r : ∀ i, m ≤ i → run dg (xs.take m) i = 0 := fun i hi => by rw [run_take dg0]; omega
  have e1 : p1 (xs.take m) k = k := by unfold p1; rw [sg_past _ _ _ hk]; omega
  have e2 : p2 (xs.take m) k = k := by unfold p2; rw [e1, r k hk]; omega
  rw [e1, r k hk]
  unfold bn
  rw [e2, z k hk]
  simp

/-- A literal is not empty, and ends with a digit or a point. -/
theorem lit_last {xs : List Int} {k : Nat} (hs : some? xs k) : k < (lit xs k).en ∧ bl (pk xs ((lit xs k).en - 1)) = false := by
  have key : ∀ i, k ≤ i → (dg (pk xs i) = true ∨ pk xs i = 46) → i + 1 = (lit xs k).en → k < (lit xs k).en ∧ bl (pk xs ((lit xs k).en - 1)) = false := by
    intro i h1 h2 h3
    refine ⟨by omega, ?_⟩
    rw [← h3, Nat.add_sub_cancel, bl_not]
    rcases h2 with h2 | h2
    · have := dg_iff.1 h2; omega
    · omega
  have k1 : k ≤ p1 xs k := by unfold p1; omega
  by_cases c : hasE xs (p3 xs k) = true
  · have he : (lit xs k).en = p4 xs (p3 xs k) + run dg xs (p4 xs (p3 xs k)) := by rw [en_eq, if_pos c]
    have c' := c
    unfold hasE at c'
    rw [Bool.and_eq_true] at c'
    have h1 := run_succ dg0 c'.2
    have h2 := p2_p3 xs k
    have h0 : p3 xs k + 1 ≤ p4 xs (p3 xs k) := by unfold p4; omega
    refine key (p4 xs (p3 xs k) + (run dg xs (p4 xs (p3 xs k)) - 1)) ?_ (.inl (run_all _ (by omega))) (by omega)
    unfold p2 at h2; omega
  · have he : (lit xs k).en = p3 xs k := by rw [en_eq, if_neg c]
    by_cases c2 : pk xs (p2 xs k) = 46
    · have h3 : p3 xs k = p2 xs k + 1 + run dg xs (p2 xs k + 1) := by unfold p3; rw [if_pos c2]
      by_cases c3 : run dg xs (p2 xs k + 1) = 0
      · refine key (p2 xs k) ?_ (.inr c2) (by omega)
        unfold p2; omega
      · refine key (p2 xs k + 1 + (run dg xs (p2 xs k + 1) - 1)) ?_ (.inl (run_all _ (by omega))) (by omega)
        unfold p2; omega
    · have h3 : p3 xs k = p2 xs k := by unfold p3; rw [if_neg c2]
      have h4 : run dg xs (p1 xs k) ≠ 0 := by
        intro h
        apply hs
        rw [h]; unfold bn; rw [if_neg c2]
      refine key (p1 xs k + (run dg xs (p1 xs k) - 1)) (by omega) (.inl (run_all _ (by omega))) ?_
      rw [he, h3]; unfold p2; omega

/-- A Dec. -/
structure D where
  neg : Bool
  ds : List Int
  e : Int
deriving DecidableEq

def z (x : Int) : Bool := decide (x = 48)
/-- Zeros at the head, at the end. -/
def lz (ds : List Int) : Nat := (ds.takeWhile z).length
def tz (ds : List Int) : Nat := lz ds.reverse
/-- The normal form of digits with an exponent. -/
def nrm (neg : Bool) (ds : List Int) (e : Int) : D :=
  if lz ds = ds.length then ⟨neg, [48], 0⟩ else ⟨neg, (ds.drop (lz ds)).take (ds.length - tz ds - lz ds), e + tz ds⟩
def Lt.d (l : Lt) : D := nrm l.neg (l.ah ++ l.bh) (l.sc - l.bh.length)
end Sc
end Go.Proofs.YtigmhnlcmhpepaaGreatDoor

namespace Go.Proofs.YtigmhnlcmhpepaaGreatDoor
namespace Sc

theorem z0 : z 0 = false := rfl
/-- What Number answers: the Dec and the place. -/
def num (xs : List Int) : D × Nat := if some? xs (run bl xs 0) then ((lit xs (run bl xs 0)).d, (lit xs (run bl xs 0)).en) else (⟨false, [], 0⟩, 0)
/-- What Whole answers. -/
def whl (xs : List Int) : D × Bool := if some? xs (run bl xs 0) ∧ (lit xs (run bl xs 0)).en + run bl xs (lit xs (run bl xs 0)).en = xs.length then ((lit xs (run bl xs 0)).d, true) else (⟨false, [], 0⟩, false)
/-- THE LONGEST: what Number takes is whole, and no longer beginning is, but for blanks. -/
theorem run_bl_take (xs : List Int) (m : Nat) : run bl (xs.take m) 0 = min (run bl xs 0) m := by rw [run_take bl0]; simp
theorem num_zero {xs : List Int} (h : (num xs).2 = 0) : num xs = (⟨false, [], 0⟩, 0) ∧ ∀ m, whl (xs.take m) = (⟨false, [], 0⟩, false) := by
  have hn : ¬ some? xs (run bl xs 0) := by
    intro c
    unfold num at h
    rw [if_pos c] at h
    have := (lit_last c).1
    simp only at h
    omega
  refine ⟨by unfold num; rw [if_neg hn], fun m => ?_⟩
  unfold whl
  rw [if_neg]
  rintro ⟨c, -⟩
  rw [run_bl_take] at c
  rcases Nat.lt_or_ge (run bl xs 0) m with d | d
  · rw [show min (run bl xs 0) m = run bl xs 0 by omega] at c
    exact rd_none_take hn d c
  · rw [show min (run bl xs 0) m = m by omega] at c
    exact rd_none_past (Nat.le_refl _) c
end Sc
end Go.Proofs.YtigmhnlcmhpepaaGreatDoor

namespace Go.Proofs.YtigmhnlcmhpepaaGreatDoor
namespace Sc

def big : Int := 1152921504606846976
/-- A Dec, by the chapter's words. -/
def IsDec (ds : List Int) (e : Int) : Prop := ds ≠ [] ∧ -1152921504606846976 ≤ e ∧ e ≤ 1152921504606846976 ∧ (∀ x ∈ ds, dg x = true) ∧ (lz ds ≠ ds.length → e + tz ds ≤ 1152921504606846976)
instance (ds : List Int) (e : Int) : Decidable (IsDec ds e) := inferInstanceAs (Decidable (_ ∧ _ ∧ _ ∧ _ ∧ _))

def cmpI (x y : Int) : Int := if x < y then -1 else if y < x then 1 else 0
theorem cmpI_c (x y : Int) : (x < y ∧ cmpI x y = -1) ∨ (x = y ∧ cmpI x y = 0) ∨ (y < x ∧ cmpI x y = 1) := by
  unfold cmpI
  rcases Int.lt_trichotomy x y with h | h | h
  · exact .inl ⟨h, by rw [if_pos h]⟩
  · exact .inr (.inl ⟨h, by rw [if_neg (by omega), if_neg (by omega)]⟩)
  · exact .inr (.inr ⟨h, by rw [if_neg (by omega), if_pos h]⟩)
def lex : List Int → List Int → Int
  | [], [] => 0
  | [], _ :: _ => -1
  | _ :: _, [] => 1
  | a :: as_, b :: bs => if a < b then -1 else if b < a then 1 else lex as_ bs
theorem lex_b (a b : List Int) : lex a b = -1 ∨ lex a b = 0 ∨ lex a b = 1 := by
  induction a generalizing b with
  | nil => cases b <;> simp [lex]
  | cons x a ih =>
    cases b with
    | nil => simp [lex]
    | cons y b => simp only [lex]; split; · simp
                  · split; · simp
                    · exact ih b
theorem lex_anti (a b : List Int) : lex b a = - lex a b := by
  induction a generalizing b with
  | nil => cases b <;> simp [lex]
  | cons x a ih =>
    cases b with
    | nil => simp [lex]
    | cons y b =>
      simp only [lex]
      rcases Int.lt_trichotomy x y with h | h | h
      · rw [if_neg (by omega), if_pos h, if_pos h]; rfl
      · rw [if_neg (by omega), if_neg (by omega), if_neg (by omega), if_neg (by omega)]; exact ih b
      · rw [if_pos h, if_neg (by omega), if_pos h]
theorem lex_zero (a b : List Int) : lex a b = 0 ↔ a = b := by
  induction a generalizing b with
  | nil => cases b <;> simp [lex]
  | cons x a ih =>
    cases b with
    | nil => simp [lex]
    | cons y b =>
      simp only [lex]
      rcases Int.lt_trichotomy x y with h | h | h
      · rw [if_pos h]; simp; omega
      · subst h; simp [ih]
      · rw [if_neg (by omega), if_pos h]; simp; omega
theorem lex_trans (a b c : List Int) : lex a b ≤ 0 → lex b c ≤ 0 → lex a c ≤ 0 ∧ (lex a c = 0 → lex a b = 0 ∧ lex b c = 0) := by
  induction a generalizing b c with
  | nil =>
    cases b with
    | nil => cases c <;> simp [lex]
    | cons y b => cases c <;> simp [lex]
  | cons x a ih =>
    cases b with
    | nil => simp [lex]
    | cons y b =>
      cases c with
      | nil => simp [lex]
      | cons z c =>
        simp only [lex]
        rcases Int.lt_trichotomy x y with h | h | h
        · rcases Int.lt_trichotomy y z with k | k | k
          · rw [if_pos h, if_pos k, if_pos (show x < z by omega)]; simp
          · rw [if_pos h, if_neg (show ¬ y < z by omega), if_neg (show ¬ z < y by omega), if_pos (show x < z by omega)]; simp
          · rw [if_neg (show ¬ y < z by omega), if_pos k]; simp
        · subst h
          rw [if_neg (show ¬ x < x by omega), if_neg (show ¬ x < x by omega)]
          rcases Int.lt_trichotomy x z with k | k | k
          · simp [k]
          · subst k; simp only [Int.lt_irrefl, if_false]; exact ih b c
          · simp [show ¬ x < z by omega, k]
        · rw [if_neg (show ¬ x < y by omega), if_pos h]; simp

/-- Sizes alone. -/
def pl (d : D) : Int := d.e + d.ds.length
def sgn (d : D) : Int := if d.ds = [48] then 0 else if d.neg = true then -1 else 1
/-- A normal Dec. -/
def Nrm (d : D) : Prop := (d.ds = [48] ∧ d.e = 0) ∨ d.ds ≠ [48]
end Sc
end Go.Proofs.YtigmhnlcmhpepaaGreatDoor

namespace Go.Proofs.YtigmhnlcmhpepaaGreatDoor
namespace Sc

/-- A number's digits, as bytes. -/
def dl (u : Nat) : List Int := (Lib.decDigits u).map fun b => (b.toNat : Int)
/-- Digits that are there, all digits. -/
def Dig (ds : List Int) : Prop := ds ≠ [] ∧ ∀ x ∈ ds, dg x = true
end Sc
end Go.Proofs.YtigmhnlcmhpepaaGreatDoor

namespace Go.Proofs.YtigmhnlcmhpepaaGreatDoor
namespace Dr

/-- A piece of a format. -/
structure Pc where
  t : List Int
  v : Int
  fl : Int
  wk : Int
  wd : Int
  pk : Int
  pr : Int

def Pc.no : Pc := ⟨[], 0, 0, 0, 0, 0, 0⟩

/-- The byte at a place, 0 behind the end. -/
def nx (xs : List Int) (j : Nat) : Int := xs.getD j 0

/-- The place of c in l, or -1. -/
def idx : List Int → Int → Int
  | [], _ => -1
  | x :: l, c => if x = c then 0 else if idx l c < 0 then -1 else idx l c + 1

theorem idx_ge (l : List Int) (c : Int) : -1 ≤ idx l c := by
  induction l with
  | nil => simp [idx]
  | cons x l ih => rw [idx]; split <;> (try split) <;> omega
theorem idx_lt (l : List Int) (c : Int) : idx l c < l.length := by
  induction l with
  | nil => simp [idx]
  | cons x l ih => rw [idx, List.length_cons]; split <;> (try split) <;> omega

def marks : List Int := [45, 43, 32, 35, 48]
def verbs : List Int := [100, 105, 111, 117, 120, 88, 99, 115, 101, 69, 102, 70, 103, 71]

/-- c is a flag. -/
def isF (c : Int) : Bool := decide (0 ≤ idx marks c)
def isD (c : Int) : Bool := decide (48 ≤ c) && decide (c ≤ 57)

theorem isD_iff {c : Int} : isD c = true ↔ 48 ≤ c ∧ c ≤ 57 := by simp [isD]
/-- How many of the first elements have p. -/
def ct (p : Int → Bool) : List Int → Nat
  | [] => 0
  | c :: l => if p c = true then ct p l + 1 else 0

theorem ct_le (p : Int → Bool) (l : List Int) : ct p l ≤ l.length := by
  induction l with
  | nil => simp [ct]
  | cons c l ih => rw [ct, List.length_cons]; split <;> omega

theorem ct_zero {p : Int → Bool} {l : List Int} (h : p (l.headD 0) = false) : ct p l = 0 := by
  cases l with
  | nil => rfl
  | cons c l => rw [ct, if_neg (by simp only [List.headD_cons] at h; rw [h]; simp)]

/-- The sum of the flags at the head. -/
def fS (s : Nat) : List Int → Nat
  | [] => s
  | c :: l => if isF c = true then fS (s ||| 2 ^ (idx marks c).toNat) l else s

/-- What the digits at the head write, capped. -/
def dN (n : Int) : List Int → Int
  | [] => n
  | c :: l => if isD c = true then dN (min (10 * n + (c - 48)) 4097) l else n

/-- A number: its kind, its value, its bytes, its error. -/
def nk (l : List Int) : Int := if l.headD 0 = 42 then 2 else if ct isD l = 0 then 0 else if 4096 < dN 0 l then 0 else 1
def nv (l : List Int) : Int := if l.headD 0 = 42 then 0 else if ct isD l = 0 then 0 else if 4096 < dN 0 l then 0 else dN 0 l
def nu (l : List Int) : Nat := if l.headD 0 = 42 then 1 else if ct isD l = 0 then 0 else if 4096 < dN 0 l then 0 else ct isD l
def ne (l : List Int) : Int := if l.headD 0 = 42 then 0 else if ct isD l = 0 then 0 else if 4096 < dN 0 l then 6 else 0

/-- A precision: likewise. -/
def pk (l : List Int) : Int := if l.headD 0 = 46 then (if ne l.tail = 0 ∧ nk l.tail = 0 then 1 else nk l.tail) else 0
def pv (l : List Int) : Int := if l.headD 0 = 46 then nv l.tail else 0
def pu (l : List Int) : Nat := if l.headD 0 = 46 then 1 + nu l.tail else 0
def pe (l : List Int) : Int := if l.headD 0 = 46 then ne l.tail else 0

/-- A verb. -/
def ve (l : List Int) : Int := if l = [] then 131 else if idx verbs (l.headD 0) < 0 then 130 else 0
def vv (l : List Int) : Int := if ve l = 0 then l.headD 0 else 0
def vu (l : List Int) : Nat := if ve l = 0 then 1 else 0

/-- The rest behind flags, width, precision. -/
def l1 (l : List Int) : List Int := l.drop (ct isF l)
def l2 (l : List Int) : List Int := (l1 l).drop (nu (l1 l))
def l3 (l : List Int) : List Int := (l2 l).drop (pu (l2 l))

/-- A directive behind its percent. -/
def de (l : List Int) : Int := if ne (l1 l) ≠ 0 then ne (l1 l) else if pe (l2 l) ≠ 0 then pe (l2 l) else ve (l3 l)
def dp (l : List Int) : Pc := if de l = 0 then ⟨[], vv (l3 l), fS 0 l, nk (l1 l), nv (l1 l), pk (l2 l), pv (l2 l)⟩ else Pc.no
def du (l : List Int) : Nat := if ne (l1 l) ≠ 0 then ct isF l else if pe (l2 l) ≠ 0 then ct isF l + nu (l1 l) + pu (l2 l) else ct isF l + nu (l1 l) + pu (l2 l) + vu (l3 l)

def isX (c : Int) : Bool := decide (c ≠ 37)

/-- A piece. -/
def qe (l : List Int) : Int := if l.headD 0 ≠ 37 then 0 else if l.tail.headD 0 = 37 then 0 else de l.tail
def qp (l : List Int) : Pc := if l.headD 0 ≠ 37 then ⟨l.take (ct isX l), 0, 0, 0, 0, 0, 0⟩ else if l.tail.headD 0 = 37 then ⟨[], 37, 0, 0, 0, 0, 0⟩ else dp l.tail
def qu (l : List Int) : Nat := if l.headD 0 ≠ 37 then ct isX l else if l.tail.headD 0 = 37 then 2 else 1 + du l.tail

/-- The pieces of a format, the place of its fault, the fault. -/
def pr : Nat → List Int → List Pc × Nat × Int
  | 0, _ => ([], 0, 0)
  | n + 1, l => if l = [] then ([], 0, 0) else if qe l ≠ 0 then ([], qu l, qe l) else if (pr n (l.drop (qu l))).2.2 = 0 then (qp l :: (pr n (l.drop (qu l))).1, 0, 0) else ([], qu l + (pr n (l.drop (qu l))).2.1, (pr n (l.drop (qu l))).2.2)

def prs (l : List Int) : List Pc × Nat × Int := pr (l.length + 1) l

theorem ve_len {l : List Int} (h : ve l = 0) : 1 ≤ l.length := by
  cases l with
  | nil => simp [ve] at h
  | cons c l => simp
theorem headD_len {l : List Int} {c : Int} (hc : c ≠ 0) (h : l.headD 0 = c) : 1 ≤ l.length := by
  cases l with
  | nil => simp at h; omega
  | cons c l => simp
theorem nu_le (l : List Int) : nu l ≤ l.length := by
  unfold nu
  have := ct_le isD l
  split
  · rename_i h; exact headD_len (by decide) h
  · split
    · omega
    · split <;> omega
theorem pu_le (l : List Int) : pu l ≤ l.length := by
  unfold pu
  split
  · rename_i h
    have := headD_len (by decide) h
    have := nu_le l.tail
    rw [List.length_tail] at this
    omega
  · omega
theorem vu_le (l : List Int) : vu l ≤ l.length := by
  unfold vu; split
  · rename_i h; exact ve_len h
  · omega
theorem du_le (l : List Int) : du l ≤ l.length := by
  have a := ct_le isF l
  have b := nu_le (l1 l)
  have c := pu_le (l2 l)
  have d := vu_le (l3 l)
  unfold du
  unfold l3 l2 l1 at *
  simp only [List.length_drop] at *
  split
  · omega
  · split <;> omega
theorem qu_le {l : List Int} (hl : l ≠ []) : qu l ≤ l.length := by
  unfold qu
  have := List.length_pos_iff.2 hl
  split
  · exact ct_le _ _
  · split
    · rename_i h
      have := headD_len (by decide) h
      rw [List.length_tail] at this
      omega
    · have := du_le l.tail
      rw [List.length_tail] at this
      omega
theorem qu_pos {l : List Int} (hl : l ≠ []) : 1 ≤ qu l := by
  unfold qu
  split
  · rename_i h
    cases l with
    | nil => exact absurd rfl hl
    | cons c l => simp only [List.headD_cons] at h; rw [ct, if_pos (by simp [isX, h])]; omega
  · split <;> omega

theorem pr_fuel (n m : Nat) (l : List Int) (hn : l.length < n) (hm : l.length < m) : pr n l = pr m l := by
  induction n generalizing m l with
  | zero => omega
  | succ n ih =>
    cases m with
    | zero => omega
    | succ m =>
      by_cases hl : l = []
      · simp [pr, hl]
      · have p := qu_pos hl
        have q := qu_le hl
        have e := ih m (l.drop (qu l)) (by rw [List.length_drop]; omega) (by rw [List.length_drop]; omega)
        simp only [pr, e]
theorem prs_nil : prs [] = ([], 0, 0) := by simp [prs, pr]
theorem prs_err {l : List Int} (hl : l ≠ []) (h : qe l ≠ 0) : prs l = ([], qu l, qe l) := by
  rw [prs, pr, if_neg hl, if_pos h]
theorem prs_cons {l : List Int} (hl : l ≠ []) (h : qe l = 0) : prs l = if (prs (l.drop (qu l))).2.2 = 0 then (qp l :: (prs (l.drop (qu l))).1, 0, 0) else ([], qu l + (prs (l.drop (qu l))).2.1, (prs (l.drop (qu l))).2.2) := by
  have p := qu_pos hl
  have q := qu_le hl
  have e : pr l.length (l.drop (qu l)) = prs (l.drop (qu l)) := pr_fuel _ _ _ (by rw [List.length_drop]; omega) (by omega)
  rw [prs, pr, if_neg hl, if_neg (by simp [h]), e]
end Dr
end Go.Proofs.YtigmhnlcmhpepaaGreatDoor

namespace Go.Proofs.YtigmhnlcmhpepaaGreatDoor
namespace Dr

/-- The flags' marks. -/
def ms (f : Int) : List Int := (if f.toNat % 2 = 1 then [45] else []) ++ (if f.toNat / 2 % 2 = 1 then [43] else []) ++ (if f.toNat / 4 % 2 = 1 then [32] else []) ++ (if f.toNat / 8 % 2 = 1 then [35] else []) ++ (if f.toNat / 16 % 2 = 1 then [48] else [])
def wn (k n : Int) : List Int := if k = 1 then Sc.dl n.toNat else if k = 2 then [42] else []
/-- A piece as a format has it. -/
def wr (p : Pc) : List Int := if p.v = 0 then p.t else if p.v = 37 then [37, 37] else 37 :: (ms p.fl ++ wn p.wk p.wd ++ (if p.pk ≠ 0 then 46 :: wn p.pk p.pr else []) ++ [p.v])

/-- In form. -/
def num (k n l : Int) : Prop := ((k = 0 ∨ k = 2) ∧ n = 0) ∨ (k = 1 ∧ l ≤ n ∧ n ≤ 4096)
def isT (p : Pc) : Prop := p.t ≠ [] ∧ p.v = 0 ∧ p.fl = 0 ∧ p.wk = 0 ∧ p.wd = 0 ∧ p.pk = 0 ∧ p.pr = 0 ∧ idx p.t 37 < 0
def isP (p : Pc) : Prop := p.t = [] ∧ p.v = 37 ∧ p.fl = 0 ∧ p.wk = 0 ∧ p.wd = 0 ∧ p.pk = 0 ∧ p.pr = 0
def isR (p : Pc) : Prop := 0 ≤ idx verbs p.v ∧ p.t = [] ∧ 0 ≤ p.fl ∧ p.fl ≤ 31 ∧ num p.wk p.wd 1 ∧ num p.pk p.pr 0
def ok (p : Pc) : Prop := isT p ∨ isP p ∨ isR p
instance (k n l : Int) : Decidable (num k n l) := inferInstanceAs (Decidable (_ ∨ _))
instance (p : Pc) : Decidable (isT p) := inferInstanceAs (Decidable (_ ∧ _))
instance (p : Pc) : Decidable (isP p) := inferInstanceAs (Decidable (_ ∧ _))
instance (p : Pc) : Decidable (isR p) := inferInstanceAs (Decidable (_ ∧ _))
instance (p : Pc) : Decidable (ok p) := inferInstanceAs (Decidable (_ ∨ _))

theorem Pc.eq {p q : Pc} (h1 : p.t = q.t) (h2 : p.v = q.v) (h3 : p.fl = q.fl) (h4 : p.wk = q.wk) (h5 : p.wd = q.wd) (h6 : p.pk = q.pk) (h7 : p.pr = q.pr) : p = q := by
  cases p; cases q; simp_all

theorem idx_cons {x c : Int} {l : List Int} (h : 0 ≤ idx (x :: l) c) : c = x ∨ 0 ≤ idx l c := by
  rw [idx] at h
  split at h
  · rename_i e; exact .inl e.symm
  · split at h
    · omega
    · exact .inr (by omega)
theorem verb_cases {c : Int} (h : 0 ≤ idx verbs c) : c = 100 ∨ c = 105 ∨ c = 111 ∨ c = 117 ∨ c = 120 ∨ c = 88 ∨ c = 99 ∨ c = 115 ∨ c = 101 ∨ c = 69 ∨ c = 102 ∨ c = 70 ∨ c = 103 ∨ c = 71 := by
  unfold verbs at h
  iterate 13 (rcases idx_cons h with h | h; · omega)
  rcases idx_cons h with h | h
  · omega
  · simp [idx] at h
theorem verb_ne {c : Int} (h : 0 ≤ idx verbs c) : c ≠ 0 ∧ c ≠ 37 ∧ c ≠ 42 ∧ c ≠ 46 ∧ isD c = false ∧ isF c = false ∧ 0 ≤ c ∧ c < 256 := by
  rcases verb_cases h with h | h | h | h | h | h | h | h | h | h | h | h | h | h <;> subst h <;> decide

theorem isF_cases {c : Int} : isF c = true ↔ c = 45 ∨ c = 43 ∨ c = 32 ∨ c = 35 ∨ c = 48 := by
  constructor
  · intro h
    simp only [isF, decide_eq_true_eq] at h
    unfold marks at h
    iterate 4 (rcases idx_cons h with h | h; · omega)
    rcases idx_cons h with h | h
    · omega
    · simp [idx] at h
  · rintro (h | h | h | h | h) <;> subst h <;> decide
theorem fS_stop {s : Nat} {r : List Int} (h : isF (r.headD 0) = false) : fS s r = s := by
  cases r with
  | nil => rfl
  | cons c l => rw [fS, if_neg (by simp only [List.headD_cons] at h; rw [h]; simp)]
end Dr
end Go.Proofs.YtigmhnlcmhpepaaGreatDoor

namespace Go.Proofs.YtigmhnlcmhpepaaGreatDoor
namespace Dr
/-- How many arguments a piece takes. -/
def tk (p : Pc) : Int := if p.v = 0 ∨ p.v = 37 then 0 else 1 + (if p.wk = 2 then 1 else 0) + (if p.pk = 2 then 1 else 0)
def wants : List Pc → Int
  | [] => 0
  | p :: l => tk p + wants l
theorem tk_bd (p : Pc) : 0 ≤ tk p ∧ tk p ≤ 3 := by
  unfold tk
  split
  · omega
  · split <;> split <;> omega
theorem wants_app (a b : List Pc) : wants (a ++ b) = wants a + wants b := by
  induction a with
  | nil => simp [wants]
  | cons p l ih => rw [List.cons_append, wants, wants, ih]; omega
theorem wants_bd (l : List Pc) : 0 ≤ wants l ∧ wants l ≤ 3 * l.length := by
  induction l with
  | nil => simp [wants]
  | cons p l ih => have := tk_bd p; rw [wants, List.length_cons]; omega
theorem wants_take {l : List Pc} {i : Nat} (h : i < l.length) : wants (l.take (i + 1)) = wants (l.take i) + tk (l.getD i Pc.no) := by
  rw [List.take_add_one, List.getElem?_eq_getElem h, wants_app, List.getD_eq_getElem?_getD, List.getElem?_eq_getElem h]
  simp [wants]
end Dr
end Go.Proofs.YtigmhnlcmhpepaaGreatDoor

namespace Go.Proofs.YtigmhnlcmhpepaaGreatDoor
namespace Dr

theorem fS_le {s : Nat} (l : List Int) (h : s < 2 ^ 5) : fS s l < 2 ^ 5 := by
  induction l generalizing s with
  | nil => exact h
  | cons c l ih =>
    rw [fS]
    split
    · refine ih (Nat.or_lt_two_pow h ?_)
      have a := idx_lt marks c
      have b : marks.length = 5 := rfl
      rename_i k
      have k' : 0 ≤ idx marks c := by simpa [isF] using k
      exact Nat.pow_lt_pow_right (by omega) (by omega)
    · exact h
theorem dN_ge {n : Int} (l : List Int) (h0 : 0 ≤ n) (h : n ≤ 4097) : n ≤ dN n l := by
  induction l generalizing n with
  | nil => exact Int.le_refl _
  | cons c l ih =>
    rw [dN]
    split
    · rename_i k
      have k' := isD_iff.1 k
      have := ih (n := min (10 * n + (c - 48)) 4097) (by omega) (by omega)
      omega
    · exact Int.le_refl _
theorem dN_one {l : List Int} (h : isD (l.headD 0) = true) (h2 : l.headD 0 ≠ 48) : 1 ≤ dN 0 l := by
  cases l with
  | nil => simp [isD] at h
  | cons c l =>
    simp only [List.headD_cons] at h h2
    have k' := isD_iff.1 h
    rw [dN, if_pos h]
    have := dN_ge (n := min (10 * 0 + (c - 48)) 4097) l (by omega) (by omega)
    omega
theorem ct_head {p : Int → Bool} {l : List Int} (h : ct p l ≠ 0) : p (l.headD 0) = true := by
  cases e : p (l.headD 0) with
  | true => rfl
  | false => exact absurd (ct_zero e) h
theorem ct_next {p : Int → Bool} (hp : p 0 = false) (l : List Int) : p ((l.drop (ct p l)).headD 0) = false := by
  induction l with
  | nil => simpa [ct] using hp
  | cons c l ih =>
    rw [ct]
    split
    · rw [List.drop_succ_cons]; exact ih
    · rename_i k
      simpa using k
theorem num_in {l : List Int} (h : ne l = 0) : num (nk l) (nv l) 0 ∧ (l.headD 0 ≠ 48 → num (nk l) (nv l) 1) := by
  unfold ne at h
  unfold nk nv
  by_cases h1 : l.headD 0 = 42
  · simp only [if_pos h1]; exact ⟨.inl ⟨.inr rfl, rfl⟩, fun _ => .inl ⟨.inr rfl, rfl⟩⟩
  · simp only [if_neg h1] at h ⊢
    by_cases h2 : ct isD l = 0
    · simp only [if_pos h2]; exact ⟨.inl ⟨.inl rfl, rfl⟩, fun _ => .inl ⟨.inl rfl, rfl⟩⟩
    · simp only [if_neg h2] at h ⊢
      by_cases h3 : 4096 < dN 0 l
      · simp [if_pos h3] at h
      · simp only [if_neg h3]
        have a := dN_ge (n := 0) l (by omega) (by omega)
        exact ⟨.inr ⟨rfl, a, by omega⟩, fun k => .inr ⟨rfl, dN_one (ct_head h2) k, by omega⟩⟩
theorem take_ct {p : Int → Bool} (l : List Int) : ∀ x ∈ l.take (ct p l), p x = true := by
  induction l with
  | nil => simp [ct]
  | cons c l ih =>
    rw [ct]
    split
    · rename_i k
      intro x hx
      rw [List.take_succ_cons] at hx
      rcases List.mem_cons.1 hx with rfl | hx
      · exact k
      · exact ih x hx
    · simp
theorem idx_none {l : List Int} {c : Int} (h : ∀ x ∈ l, x ≠ c) : idx l c < 0 := by
  induction l with
  | nil => simp [idx]
  | cons x l ih =>
    have a := ih (fun y hy => h y (by simp [hy]))
    rw [idx, if_neg (h x (by simp)), if_pos a]; decide
theorem dp_ok {l : List Int} (h : de l = 0) : isR (dp l) := by
  have h0 : ne (l1 l) = 0 ∧ pe (l2 l) = 0 ∧ ve (l3 l) = 0 := by
    rw [de] at h
    split at h
    · contradiction
    · rename_i a
      split at h
      · contradiction
      · rename_i b
        exact ⟨by simpa using a, by simpa using b, h⟩
  obtain ⟨e1, e2, e3⟩ := h0
  rw [dp, if_pos h]
  have vb : 0 ≤ idx verbs ((l3 l).headD 0) := by
    rw [ve] at e3
    split at e3
    · simp at e3
    · split at e3
      · simp at e3
      · omega
  have fb := fS_le (s := 0) l (by decide)
  have hd : (l1 l).headD 0 ≠ 48 := by
    have := ct_next (p := isF) (by decide) l
    intro q
    rw [← l1, q] at this
    exact absurd this (by decide)
  refine ⟨by show 0 ≤ idx verbs (vv (l3 l)); rw [vv, if_pos e3]; exact vb, rfl, by show (0 : Int) ≤ (fS 0 l : Int); omega, by show (fS 0 l : Int) ≤ 31; omega, (num_in e1).2 hd, ?_⟩
  show num (pk (l2 l)) (pv (l2 l)) 0
  unfold pk pv
  rw [pe] at e2
  by_cases q : (l2 l).headD 0 = 46
  · rw [if_pos q] at e2
    rw [if_pos q, if_pos q]
    have n := (num_in e2).1
    split
    · rename_i z
      have : nv (l2 l).tail = 0 := by
        rcases n with ⟨_, n⟩ | ⟨n, _⟩
        · exact n
        · rw [z.2] at n; exact absurd n (by decide)
      rw [this]; exact .inr ⟨rfl, by omega, by omega⟩
    · exact n
  · rw [if_neg q, if_neg q]; exact .inl ⟨.inl rfl, rfl⟩
theorem qp_ok {l : List Int} (hl : l ≠ []) (h : qe l = 0) : ok (qp l) := by
  unfold qp
  unfold qe at h
  by_cases h1 : l.headD 0 ≠ 37
  · rw [if_pos h1]
    left
    refine ⟨?_, rfl, rfl, rfl, rfl, rfl, rfl, ?_⟩
    · intro q
      have q' := congrArg List.length q
      rw [List.length_take] at q'
      have a : l.length ≠ 0 := by simpa using hl
      have b : ct isX l ≠ 0 := by
        cases l with
        | nil => exact absurd rfl hl
        | cons c l =>
          rw [ct, if_pos (by simp only [List.headD_cons] at h1; simpa [isX] using h1)]; omega
      simp only [List.length_nil] at q'
      omega
    · exact idx_none (fun x hx => by simpa [isX] using take_ct (p := isX) l x hx)
  · rw [if_neg h1] at h ⊢
    by_cases h2 : l.tail.headD 0 = 37
    · rw [if_pos h2]; right; left; exact ⟨rfl, rfl, rfl, rfl, rfl, rfl, rfl⟩
    · rw [if_neg h2] at h ⊢
      right; right
      exact dp_ok h
theorem prs_form : ∀ (n : Nat) (l : List Int), l.length ≤ n → ∀ p ∈ (prs l).1, ok p := by
  intro n
  induction n with
  | zero =>
    intro l hl p hp
    have : l = [] := List.eq_nil_of_length_eq_zero (by omega)
    subst this
    rw [prs_nil] at hp; simp at hp
  | succ n ih =>
    intro l hl p hp
    by_cases h0 : l = []
    · subst h0; rw [prs_nil] at hp; simp at hp
    · by_cases he : qe l = 0
      · rw [prs_cons h0 he] at hp
        split at hp
        · rcases List.mem_cons.1 hp with rfl | hp
          · exact qp_ok h0 he
          · have := qu_pos h0
            exact ih (l.drop (qu l)) (by rw [List.length_drop]; omega) p hp
        · simp at hp
      · rw [prs_err h0 he] at hp; simp at hp
theorem prs_sub : ∀ (n : Nat) (l : List Int), l.length ≤ n → ∀ p ∈ (prs l).1, ∀ x ∈ p.t, x ∈ l := by
  intro n
  induction n with
  | zero =>
    intro l hl p hp
    have : l = [] := List.eq_nil_of_length_eq_zero (by omega)
    subst this
    rw [prs_nil] at hp; simp at hp
  | succ n ih =>
    intro l hl p hp
    by_cases h0 : l = []
    · subst h0; rw [prs_nil] at hp; simp at hp
    · by_cases he : qe l = 0
      · rw [prs_cons h0 he] at hp
        split at hp
        · rcases List.mem_cons.1 hp with rfl | hp
          · intro x hx
            rw [qp] at hx
            split at hx
            · exact List.mem_of_mem_take hx
            · split at hx
              · simp at hx
              · rw [dp] at hx
                split at hx <;> simp [Pc.no] at hx
          · have := qu_pos h0
            intro x hx
            exact List.mem_of_mem_drop (ih (l.drop (qu l)) (by rw [List.length_drop]; omega) p hp x hx)
        · simp at hp
      · rw [prs_err h0 he] at hp; simp at hp
theorem prs_lng : ∀ (n : Nat) (l : List Int), l.length ≤ n → (prs l).1.length ≤ l.length := by
  intro n
  induction n with
  | zero =>
    intro l hl
    have : l = [] := List.eq_nil_of_length_eq_zero (by omega)
    subst this
    rw [prs_nil]; simp
  | succ n ih =>
    intro l hl
    by_cases h0 : l = []
    · subst h0; rw [prs_nil]; simp
    · by_cases he : qe l = 0
      · rw [prs_cons h0 he]
        split
        · have := qu_pos h0
          have := qu_le h0
          have := ih (l.drop (qu l)) (by rw [List.length_drop]; omega)
          rw [List.length_drop] at this
          rw [List.length_cons]
          omega
        · simp
      · rw [prs_err h0 he]; simp
end Dr
end Go.Proofs.YtigmhnlcmhpepaaGreatDoor

namespace Go.Proofs.YtigmhnlcmhpepaaGreatDoor
open Go

def sW (p : Dr.Pc) (x : Int) : Int := if p.wk = 2 then x else p.wd
def sP (p : Dr.Pc) (y : Int) : Int := if p.pk = 0 then -1 else if p.pk = 2 then max y (-1) else p.pr
def ste (p : Dr.Pc) (x y : Int) : Int := if Dr.isR p then (if sW p x < -4096 ∨ 4096 < sW p x ∨ 4096 < sP p y then 6 else 0) else 132
def spv (p : Dr.Pc) (x y : Int) : Array Value := if ste p x y = 0 then #[.int .u8 p.v, .int .i64 (if sW p x < 0 then bits .or .i64 p.fl 1 else p.fl), .int .i64 (if sW p x < 0 then - sW p x else sW p x), .int .i64 (sP p y)] else #[.int .u8 0, .int .i64 0, .int .i64 0, .int .i64 0]
end Go.Proofs.YtigmhnlcmhpepaaGreatDoor

namespace Go.Proofs.YtigmhnlcmhpepaaGreatDoor
open Go
namespace Dr

/-- What texts and percents print. -/
def pl (ps : List Pc) : List Int := ps.flatMap fun p => if p.v = 37 then [37] else p.t
theorem pl_app (a b : List Pc) : pl (a ++ b) = pl a ++ pl b := by simp [pl]
theorem pl_take {l : List Pc} {i : Nat} (h : i < l.length) : pl (l.take (i + 1)) = pl (l.take i) ++ (if (l.getD i Pc.no).v = 37 then [37] else (l.getD i Pc.no).t) := by
  rw [List.take_add_one, List.getElem?_eq_getElem h, pl_app, List.getD_eq_getElem?_getD, List.getElem?_eq_getElem h]
  simp [pl]
theorem pl_le {l : List Pc} {i : Nat} : (pl (l.take i)).length ≤ (pl l).length := by
  have e : pl l = pl (l.take i) ++ pl (l.drop i) := by rw [← pl_app, List.take_append_drop]
  rw [e, List.length_append]; omega
theorem pl_mem {l : List Pc} (h : ∀ p ∈ l, ∀ x ∈ p.t, 0 ≤ x ∧ x < 256) : ∀ x ∈ pl l, 0 ≤ x ∧ x < 256 := by
  intro x hx
  obtain ⟨p, hp, hx⟩ := List.mem_flatMap.1 hx
  split at hx
  · simp at hx; omega
  · exact h p hp x hx

/-- A piece that is no directive. -/
def isN (p : Pc) : Prop := p.v = 0 ∨ p.v = 37
instance (p : Pc) : Decidable (isN p) := by unfold isN; infer_instance

/-- The place of the first directive. -/
def fd : List Pc → Nat
  | [] => 0
  | p :: l => if isN p then fd l + 1 else 0
/-- How many directives there are. -/
def cq : List Pc → Int
  | [] => 0
  | p :: l => (if isN p then 0 else 1) + cq l

theorem cq_app (a b : List Pc) : cq (a ++ b) = cq a + cq b := by
  induction a with
  | nil => simp [cq]
  | cons p l ih => rw [List.cons_append, cq, cq, ih]; omega
theorem cq_take {l : List Pc} {i : Nat} (h : i < l.length) : cq (l.take (i + 1)) = cq (l.take i) + (if isN (l.getD i Pc.no) then 0 else 1) := by
  rw [List.take_add_one, List.getElem?_eq_getElem h, cq_app, List.getD_eq_getElem?_getD, List.getElem?_eq_getElem h]
  simp [cq]
theorem cq_bd (l : List Pc) : 0 ≤ cq l ∧ cq l ≤ l.length := by
  induction l with
  | nil => simp [cq]
  | cons p l ih => rw [cq, List.length_cons]; split <;> omega
theorem tk_isN {p : Pc} (h : isN p) : tk p = 0 := if_pos h
theorem tk_not {p : Pc} (h : ¬ isN p) : 1 ≤ tk p := by
  have h' : ¬ (p.v = 0 ∨ p.v = 37) := h
  rw [tk, if_neg h']; split <;> split <;> omega
theorem cq_wants (l : List Pc) : cq l ≤ wants l := by
  induction l with
  | nil => simp [cq, wants]
  | cons p l ih =>
    rw [cq, wants]
    by_cases h : isN p
    · rw [if_pos h, tk_isN h]; omega
    · rw [if_neg h]; have := tk_not h; omega
theorem cq_zero {l : List Pc} (h : cq l = 0) : wants l = 0 ∧ fd l = l.length ∧ ∀ p ∈ l, isN p := by
  induction l with
  | nil => simp [wants, fd]
  | cons p l ih =>
    rw [cq] at h
    have b := cq_bd l
    by_cases k : isN p
    · rw [if_pos k] at h
      obtain ⟨a, b, c⟩ := ih (by omega)
      refine ⟨by rw [wants, tk_isN k, a]; rfl, by rw [fd, if_pos k, b, List.length_cons], fun q hq => ?_⟩
      rcases List.mem_cons.1 hq with rfl | hq
      · exact k
      · exact c q hq
    · rw [if_neg k] at h; omega
theorem cq_one {l : List Pc} (h : cq l = 1) : wants l = tk (l.getD (fd l) Pc.no) := by
  induction l with
  | nil => simp [cq] at h
  | cons p l ih =>
    rw [cq] at h
    by_cases k : isN p
    · rw [if_pos k] at h
      rw [wants, tk_isN k, fd, if_pos k, ih (by omega)]
      simp
    · rw [if_neg k] at h
      rw [wants, fd, if_neg k, (cq_zero (l := l) (by omega)).1]
      simp
theorem wants_one {l : List Pc} : wants l = 1 ↔ cq l = 1 ∧ tk (l.getD (fd l) Pc.no) = 1 := by
  constructor
  · intro h
    have a := cq_wants l
    have b := cq_bd l
    have c : cq l = 1 := by
      by_cases k : cq l = 0
      · have := (cq_zero k).1; omega
      · omega
    exact ⟨c, by rw [← cq_one c]; exact h⟩
  · rintro ⟨h, k⟩
    rw [cq_one h, k]

theorem fd_lt {l : List Pc} (h : cq l ≠ 0) : fd l < l.length := by
  induction l with
  | nil => simp [cq] at h
  | cons p l ih =>
    rw [cq] at h
    rw [fd, List.length_cons]
    by_cases k : isN p
    · rw [if_pos k] at h ⊢; have := ih (by omega); omega
    · rw [if_neg k]; omega
theorem fd_ahead {l : List Pc} {i : Nat} (h : i < fd l) : isN (l.getD i Pc.no) := by
  induction l generalizing i with
  | nil => simp [fd] at h
  | cons p l ih =>
    rw [fd] at h
    by_cases k : isN p
    · rw [if_pos k] at h
      cases i with
      | zero => simpa using k
      | succ i => simpa using ih (i := i) (by omega)
    · rw [if_neg k] at h; omega
theorem fd_at {l : List Pc} (h : fd l < l.length) : ¬ isN (l.getD (fd l) Pc.no) := by
  induction l with
  | nil => simp at h
  | cons p l ih =>
    rw [fd] at h ⊢
    by_cases k : isN p
    · rw [if_pos k] at h ⊢
      simpa using ih (by simpa using h)
    · rw [if_neg k]; simpa using k
/-- Where the last directive stands, as the reference finds it. -/
def Lw (l : List Pc) (i : Nat) (n : Int) (k : Nat) : Prop := n = cq (l.take i) ∧ (n = 0 → i ≤ fd l ∧ k = 0) ∧ (n = 1 → k = fd l) ∧ k ≤ i
theorem Lw.start (l : List Pc) : Lw l 0 0 0 := ⟨by simp [cq], fun _ => ⟨by omega, rfl⟩, fun h => by omega, by omega⟩
theorem Lw.skip {l : List Pc} {i k : Nat} {n : Int} (h : Lw l i n k) (hi : i < l.length) (hn : isN (l.getD i Pc.no)) : Lw l (i + 1) n k := by
  obtain ⟨a, b, c, d⟩ := h
  refine ⟨by rw [cq_take hi, if_pos hn, ← a]; omega, fun q => ⟨?_, (b q).2⟩, c, by omega⟩
  have h1 := (b q).1
  rcases Nat.lt_or_ge i (fd l) with h | h
  · omega
  · have e : fd l = i := by omega
    exact absurd hn (by have := fd_at (l := l) (by omega); rw [e] at this; exact this)
theorem Lw.done {l : List Pc} {k : Nat} {n : Int} (h : Lw l l.length n k) : n = cq l ∧ (n = 1 → k = fd l) := by
  obtain ⟨a, b, c, d⟩ := h
  rw [List.take_length] at a
  exact ⟨a, c⟩

/-- The letters that Single takes. -/
def pvs : List Int := [101, 69, 102, 70, 103, 71]
/-- The directive of a format. -/
def sgP (xs : List Int) : Pc := (prs xs).1.getD (fd (prs xs).1) Pc.no
def sgO (xs : List Int) : Bool := decide ((prs xs).2.2 = 0 ∧ wants (prs xs).1 = 1 ∧ 0 ≤ idx pvs (sgP xs).v)
def sgA (xs : List Int) : List Int := if sgO xs = true then pl ((prs xs).1.take (fd (prs xs).1)) else []
def sgB (xs : List Int) : List Int := if sgO xs = true then pl ((prs xs).1.drop (fd (prs xs).1 + 1)) else []
def sgS (xs : List Int) : Array Value := if sgO xs = true then spv (sgP xs) 0 0 else #[.int .u8 0, .int .i64 0, .int .i64 0, .int .i64 0]

theorem ok_isR {p : Pc} (h : ok p) : isR p ↔ ¬ isN p := by
  constructor
  · intro q k
    have v := verb_ne q.1
    rcases k with k | k
    · exact v.1 k
    · exact v.2.1 k
  · intro q
    rcases h with k | k | k
    · exact absurd (.inl k.2.1) q
    · exact absurd (.inr k.2.1) q
    · exact k
theorem num_bd {k n l : Int} (h : num k n l) (hl : 0 ≤ l) : 0 ≤ n ∧ n ≤ 4096 := by
  rcases h with h | h <;> omega
theorem ste_zero {p : Pc} (h : isR p) (h1 : p.wk ≠ 2) (h2 : p.pk ≠ 2) : ste p 0 0 = 0 := by
  have a := num_bd h.2.2.2.2.1 (by omega)
  have b := num_bd h.2.2.2.2.2 (by omega)
  rw [ste, if_pos h, if_neg]
  unfold sW sP
  rw [if_neg h1, if_neg h2]
  split <;> omega
/-- What the one directive is. -/
theorem sg_one {xs : List Int} (h : wants (prs xs).1 = 1) : fd (prs xs).1 < (prs xs).1.length ∧ isR (sgP xs) ∧ (sgP xs).wk ≠ 2 ∧ (sgP xs).pk ≠ 2 ∧ ste (sgP xs) 0 0 = 0 := by
  obtain ⟨c, t⟩ := wants_one.1 h
  have l := fd_lt (l := (prs xs).1) (by omega)
  have n := fd_at l
  have m : sgP xs ∈ (prs xs).1 := by rw [sgP, List.getD_eq_getElem?_getD, List.getElem?_eq_getElem l]; exact List.getElem_mem l
  have r : isR (sgP xs) := (ok_isR (prs_form _ xs (Nat.le_refl _) _ m)).2 n
  have t' : tk (sgP xs) = 1 := t
  have n' : ¬ ((sgP xs).v = 0 ∨ (sgP xs).v = 37) := n
  rw [tk, if_neg n'] at t'
  have a : (sgP xs).wk ≠ 2 := fun q => by rw [if_pos q] at t'; split at t' <;> omega
  have b : (sgP xs).pk ≠ 2 := fun q => by rw [if_pos q] at t'; split at t' <;> omega
  exact ⟨l, r, a, b, ste_zero r a b⟩

theorem sg_no {xs : List Int} (h : sgO xs = false) : sgA xs = [] ∧ sgB xs = [] ∧ sgS xs = #[.int .u8 0, .int .i64 0, .int .i64 0, .int .i64 0] := by
  have e : ¬ sgO xs = true := by rw [h]; exact Bool.false_ne_true
  exact ⟨if_neg e, if_neg e, if_neg e⟩
theorem sg_yes {xs : List Int} (h : sgO xs = true) : sgA xs = pl ((prs xs).1.take (fd (prs xs).1)) ∧ sgB xs = pl ((prs xs).1.drop (fd (prs xs).1 + 1)) ∧ sgS xs = spv (sgP xs) 0 0 := ⟨if_pos h, if_pos h, if_pos h⟩

/-- A piece prints no more bytes than the format has. -/
theorem pl_prs : ∀ (n : Nat) (l : List Int), l.length ≤ n → (pl (prs l).1).length ≤ l.length := by
  intro n
  induction n with
  | zero =>
    intro l h
    have : l = [] := List.eq_nil_of_length_eq_zero (by omega)
    subst this
    rw [prs_nil]; simp [pl]
  | succ n ih =>
    intro l h
    by_cases hl : l = []
    · subst hl; rw [prs_nil]; simp [pl]
    · by_cases he : qe l = 0
      · rw [prs_cons hl he]
        split
        · have p := qu_pos hl
          have q := qu_le hl
          have k := ih (l.drop (qu l)) (by rw [List.length_drop]; omega)
          rw [List.length_drop] at k
          have e : pl (qp l :: (prs (l.drop (qu l))).1) = (if (qp l).v = 37 then [37] else (qp l).t) ++ pl (prs (l.drop (qu l))).1 := by simp [pl]
          have f : ((if (qp l).v = 37 then [37] else (qp l).t) : List Int).length ≤ qu l := by
            unfold qp qu at *
            split
            · split at p <;> simp <;> try omega
            · rename_i hv
              split
              · simp
              · split
                · simp
                · rename_i h1 h2
                  unfold dp
                  split
                  · simp
                  · simp [Pc.no]
          show (pl (qp l :: (prs (l.drop (qu l))).1)).length ≤ _
          rw [e, List.length_append]
          omega
        · simp [pl]
      · rw [prs_err hl he]; simp [pl]
end Dr
end Go.Proofs.YtigmhnlcmhpepaaGreatDoor
