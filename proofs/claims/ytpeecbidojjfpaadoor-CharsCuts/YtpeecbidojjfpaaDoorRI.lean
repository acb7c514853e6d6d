/-
  Texts put together: VNum, VStr, VClone, MOne, ChN.
-/
import Derived.Test.YtpeecbidojjfpaaDoorV0
import Derived.Laws.BytesArg
import Derived.Laws.IdiomStrings
import Derived.Laws.Strings3
import Derived.Laws.DeepStrings4
import Derived.Shelf.Pu.Clone
import Derived.Test.YtpeecbidojjfpaaDoorRE
import Derived.Lib.Split
import Derived.Lib.Replace
namespace Go.Proofs.YtpeecbidojjfpaaDoor
namespace Sc

def pk (xs : List Int) (i : Nat) : Int := xs.getD i 0
def dg (x : Int) : Bool := decide (48 ≤ x) && decide (x ≤ 57)
def bl (x : Int) : Bool := decide (x = 32) || (decide (9 ≤ x) && decide (x ≤ 13))
/-- How many bytes from place i on have p, one behind the other. -/
def run (p : Int → Bool) (xs : List Int) (i : Nat) : Nat := ((xs.drop i).takeWhile p).length
def sg (xs : List Int) (i : Nat) : Nat := if pk xs i = 43 ∨ pk xs i = 45 then 1 else 0

theorem dg_iff {x : Int} : dg x = true ↔ 48 ≤ x ∧ x ≤ 57 := by simp [dg]
theorem dg_not {x : Int} : dg x = false ↔ ¬ (48 ≤ x ∧ x ≤ 57) := by rw [← dg_iff]; simp
theorem bl_iff {x : Int} : bl x = true ↔ x = 32 ∨ (9 ≤ x ∧ x ≤ 13) := by simp [bl]
theorem bl_not {x : Int} : bl x = false ↔ ¬ (x = 32 ∨ (9 ≤ x ∧ x ≤ 13)) := by rw [← bl_iff]; simp

theorem pk_ge {xs : List Int} {i : Nat} (h : xs.length ≤ i) : pk xs i = 0 := by simp [pk, List.getD, List.getElem?_eq_none h]
theorem pk_lt {xs : List Int} {i : Nat} (h : pk xs i ≠ 0) : i < xs.length := by
  rcases Nat.lt_or_ge i xs.length with c | c
  · exact c
  · exact absurd (pk_ge c) h
theorem pk_take (xs : List Int) (m i : Nat) : pk (xs.take m) i = if i < m then pk xs i else 0 := by
  unfold pk
  by_cases h : i < m
  · simp [List.getD, h]
  · simp [List.getD, List.getElem?_take, h]
theorem pk_drop (xs : List Int) (m i : Nat) : pk (xs.drop m) i = pk xs (m + i) := by simp [pk, List.getD, List.getElem?_drop]
theorem pk_append (xs ys : List Int) (i : Nat) : pk (xs ++ ys) i = if i < xs.length then pk xs i else pk ys (i - xs.length) := by
  by_cases h : i < xs.length
  · simp [pk, List.getD, List.getElem?_append_left h, h]
  · simp [pk, List.getD, List.getElem?_append_right (Nat.le_of_not_lt h), h]

theorem run_step {p : Int → Bool} (hp : p 0 = false) (xs : List Int) (i : Nat) : run p xs i = if p (pk xs i) = true then run p xs (i + 1) + 1 else 0 := by
  unfold run
  rcases Nat.lt_or_ge i xs.length with h | h
  · rw [List.drop_eq_getElem_cons h, List.takeWhile_cons]
    have e : pk xs i = xs[i] := by simp [pk, List.getD, h]
    rw [e]
    split <;> simp
  · rw [List.drop_of_length_le h, pk_ge h, hp]
    simp

theorem run_zero {p : Int → Bool} (hp : p 0 = false) {xs : List Int} {i : Nat} (h : p (pk xs i) = false) : run p xs i = 0 := by
  rw [run_step hp, h]; simp
theorem run_succ {p : Int → Bool} (hp : p 0 = false) {xs : List Int} {i : Nat} (h : p (pk xs i) = true) : run p xs i = run p xs (i + 1) + 1 := by
  rw [run_step hp, h]; simp
theorem run_pos {p : Int → Bool} (hp : p 0 = false) {xs : List Int} {i : Nat} (h : 0 < run p xs i) : p (pk xs i) = true := by
  cases c : p (pk xs i) with
  | true => rfl
  | false => rw [run_zero hp c] at h; omega
theorem run_le (p : Int → Bool) (xs : List Int) (i : Nat) : run p xs i ≤ xs.length - i := by
  unfold run
  have := List.IsPrefix.length_le (List.takeWhile_prefix p (l := xs.drop i))
  rw [List.length_drop] at this
  exact this
theorem run_all {p : Int → Bool} {xs : List Int} {i : Nat} : ∀ j, j < run p xs i → p (pk xs (i + j)) = true := by
  intro j hj
  have h1 := List.takeWhile_prefix p (l := xs.drop i)
  obtain ⟨t, ht⟩ := h1
  have h2 : (xs.drop i)[j]? = ((xs.drop i).takeWhile p)[j]? := by
    conv => lhs; rw [← ht]
    rw [List.getElem?_append_left hj]
  rw [List.getElem?_drop, List.getElem?_eq_getElem hj] at h2
  have h3 : pk xs (i + j) = ((xs.drop i).takeWhile p)[j] := by simp [pk, List.getD, h2]
  rw [h3]
  have := List.all_takeWhile (p := p) (l := xs.drop i)
  rw [List.all_eq_true] at this
  exact this _ (List.getElem_mem hj)
theorem run_end {p : Int → Bool} (hp : p 0 = false) {xs : List Int} : ∀ (n i : Nat), run p xs i = n → p (pk xs (i + n)) = false := by
  intro n
  induction n with
  | zero =>
    intro i h
    rw [Nat.add_zero]
    cases c : p (pk xs i) with
    | false => rfl
    | true => rw [run_succ hp c] at h; omega
  | succ n ih =>
    intro i h
    have h1 := run_pos hp (show 0 < run p xs i by omega)
    rw [run_succ hp h1] at h
    have := ih (i + 1) (by omega)
    rw [show i + (n + 1) = i + 1 + n by omega]
    exact this
/-- A run is what it is: n bytes have p, the next one has not. -/
theorem run_is {p : Int → Bool} (hp : p 0 = false) {xs : List Int} : ∀ (n i : Nat), (∀ j, j < n → p (pk xs (i + j)) = true) → p (pk xs (i + n)) = false → run p xs i = n := by
  intro n
  induction n with
  | zero => intro i _ h; exact run_zero hp h
  | succ n ih =>
    intro i h1 h2
    have h0 := h1 0 (by omega)
    rw [Nat.add_zero] at h0
    rw [run_succ hp h0]
    rw [ih (i + 1) (fun j hj => by rw [show i + 1 + j = i + (j + 1) by omega]; exact h1 (j + 1) (by omega)) (by rw [show i + 1 + n = i + (n + 1) by omega]; exact h2)]
theorem run_take {p : Int → Bool} (hp : p 0 = false) (xs : List Int) (m i : Nat) : run p (xs.take m) i = min (run p xs i) (m - i) := by
  apply run_is hp
  · intro j hj
    rw [pk_take, if_pos (by omega)]
    exact run_all j (by omega)
  · rw [pk_take]
    by_cases c : i + min (run p xs i) (m - i) < m
    · rw [if_pos c, show min (run p xs i) (m - i) = run p xs i by omega]
      exact run_end hp _ _ rfl
    · rw [if_neg c]; exact hp

theorem dg0 : dg 0 = false := rfl
theorem bl0 : bl 0 = false := rfl

/-- A literal's parts: its sign, the digits ahead of and behind the point, the exponent that is written, the place behind it. -/
structure Lt where
  neg : Bool
  ah : List Int
  bh : List Int
  sc : Int
  en : Nat

/-- An exponent's digits as a number, cut at 10^15. -/
def cap (l : List Int) : Int := l.foldl (fun s x => min (10 * s + (x - 48)) 1000000000000000) 0
theorem cap_nil : cap [] = 0 := rfl
theorem cap_snoc (l : List Int) (x : Int) : cap (l ++ [x]) = min (10 * cap l + (x - 48)) 1000000000000000 := by simp [cap]
theorem take_snoc {xs : List Int} {v c : Nat} (h : v + c < xs.length) : (xs.drop v).take (c + 1) = (xs.drop v).take c ++ [pk xs (v + c)] := by
  rw [List.take_add_one, List.getElem?_drop, List.getElem?_eq_getElem h]
  simp [pk, List.getD, h]
theorem cap_b : ∀ (l : List Int), (∀ x ∈ l, dg x = true) → 0 ≤ cap l ∧ cap l ≤ 1000000000000000 := by
  intro l
  rw [← List.reverse_reverse l]
  induction l.reverse with
  | nil => intro _; simp [cap]
  | cons x t ih =>
    intro h
    rw [List.reverse_cons, cap_snoc]
    have h1 := ih (fun y hy => h y (by simp at hy ⊢; exact .inl hy))
    have h2 := dg_iff.1 (h x (by simp))
    omega

/-- Where the digits behind the sign begin. -/
def p1 (xs : List Int) (k : Nat) : Nat := k + sg xs k
/-- Where they end. -/
def p2 (xs : List Int) (k : Nat) : Nat := p1 xs k + run dg xs (p1 xs k)
/-- How many digits stand behind the point. -/
def bn (xs : List Int) (k : Nat) : Nat := if pk xs (p2 xs k) = 46 then run dg xs (p2 xs k + 1) else 0
/-- The place behind the digits and the point. -/
def p3 (xs : List Int) (k : Nat) : Nat := if pk xs (p2 xs k) = 46 then p2 xs k + 1 + run dg xs (p2 xs k + 1) else p2 xs k
/-- Where the exponent's digits begin, behind a letter at t. -/
def p4 (xs : List Int) (t : Nat) : Nat := t + 1 + sg xs (t + 1)
def isE (x : Int) : Bool := decide (x = 101) || decide (x = 69)
/-- Has it an exponent? -/
def hasE (xs : List Int) (t : Nat) : Bool := isE (pk xs t) && dg (pk xs (p4 xs t))
def some? (xs : List Int) (k : Nat) : Prop := run dg xs (p1 xs k) + bn xs k ≠ 0
instance (xs : List Int) (k : Nat) : Decidable (some? xs k) := inferInstanceAs (Decidable (_ ≠ _))
def lit (xs : List Int) (k : Nat) : Lt :=
  { neg := decide (pk xs k = 45)
    ah := (xs.drop (p1 xs k)).take (run dg xs (p1 xs k))
    bh := (xs.drop (p2 xs k + 1)).take (bn xs k)
    sc := if hasE xs (p3 xs k) = true then (if pk xs (p3 xs k + 1) = 45 then - cap ((xs.drop (p4 xs (p3 xs k))).take (run dg xs (p4 xs (p3 xs k)))) else cap ((xs.drop (p4 xs (p3 xs k))).take (run dg xs (p4 xs (p3 xs k))))) else 0
    en := if hasE xs (p3 xs k) = true then p4 xs (p3 xs k) + run dg xs (p4 xs (p3 xs k)) else p3 xs k }
def rd (xs : List Int) (k : Nat) : Option Lt := if some? xs k then some (lit xs k) else none

theorem sg_le (xs : List Int) (i : Nat) : sg xs i ≤ 1 := by unfold sg; split <;> omega
theorem sg_lt {xs : List Int} {i : Nat} (h : sg xs i = 1) : i < xs.length := by
  unfold sg at h
  split at h
  · next c => exact pk_lt (by omega)
  · omega
theorem sg_take (xs : List Int) (m i : Nat) (h : i < m) : sg (xs.take m) i = sg xs i := by simp only [sg, pk_take, if_pos h]
theorem sg_past (xs : List Int) (m i : Nat) (h : m ≤ i) : sg (xs.take m) i = 0 := by simp only [sg, pk_take, if_neg (show ¬ i < m by omega)]; simp

theorem en_eq (xs : List Int) (k : Nat) : (lit xs k).en = if hasE xs (p3 xs k) = true then p4 xs (p3 xs k) + run dg xs (p4 xs (p3 xs k)) else p3 xs k := rfl
theorem p3_en (xs : List Int) (k : Nat) : p3 xs k ≤ (lit xs k).en := by
  rw [en_eq]
  split
  · unfold p4; omega
  · omega
theorem p2_p3 (xs : List Int) (k : Nat) : p2 xs k ≤ p3 xs k := by unfold p3; split <;> omega
theorem p3_lt (xs : List Int) (k : Nat) : pk xs (p2 xs k) = 46 → p2 xs k < p3 xs k := by intro h; unfold p3; rw [if_pos h]; omega

theorem p1_le (xs : List Int) (k : Nat) (h : k ≤ xs.length) : p1 xs k ≤ xs.length := by
  unfold p1
  have := sg_le xs k
  rcases Nat.lt_or_ge (sg xs k) 1 with c | c
  · omega
  · have := sg_lt (xs := xs) (i := k) (by omega); omega
theorem p2_le (xs : List Int) (k : Nat) (h : k ≤ xs.length) : p2 xs k ≤ xs.length := by
  have h1 := p1_le xs k h
  have h2 := run_le dg xs (p1 xs k)
  unfold p2; omega
theorem p3_le (xs : List Int) (k : Nat) (h : k ≤ xs.length) : p3 xs k ≤ xs.length := by
  have h1 := p2_le xs k h
  unfold p3
  split
  · next c =>
    have h2 := run_le dg xs (p2 xs k + 1)
    have h3 : p2 xs k < xs.length := pk_lt (by omega)
    omega
  · exact h1
theorem p4_le (xs : List Int) (t : Nat) (h : t < xs.length) : p4 xs t ≤ xs.length := by
  unfold p4
  rcases Nat.lt_or_ge (sg xs (t + 1)) 1 with c | c
  · omega
  · have := sg_lt (xs := xs) (i := t + 1) (by have := sg_le xs (t + 1); omega); have := sg_le xs (t + 1); omega
theorem isE_lt {xs : List Int} {t : Nat} (h : isE (pk xs t) = true) : t < xs.length := by
  apply pk_lt
  intro c
  rw [c] at h
  simp [isE] at h
theorem en_le (xs : List Int) (k : Nat) (h : k ≤ xs.length) : (lit xs k).en ≤ xs.length := by
  rw [en_eq]
  split
  · next c =>
    unfold hasE at c
    rw [Bool.and_eq_true] at c
    have h1 := p4_le xs _ (isE_lt c.1)
    have h2 := run_le dg xs (p4 xs (p3 xs k))
    omega
  · exact p3_le xs k h

/-- What is no literal is none in any beginning. -/
theorem rd_none_take {xs : List Int} {k m : Nat} (h : ¬ some? xs k) (hk : k < m) : ¬ some? (xs.take m) k := by
  unfold some? at *
  have h1 : run dg xs (p1 xs k) = 0 := by omega
  have h2 : bn xs k = 0 := by omega
  have e1 : p1 (xs.take m) k = p1 xs k := by unfold p1; rw [sg_take _ _ _ hk]
  have e2 : run dg (xs.take m) (p1 xs k) = 0 := by rw [run_take dg0]; omega
  have e3 : p2 (xs.take m) k = p2 xs k := by unfold p2; rw [e1, e2, h1]
  rw [e1, e2]
  have e4 : bn (xs.take m) k = 0 := by
    unfold bn at *
    rw [e3, pk_take, run_take dg0]
    by_cases c : p2 xs k < m
    · rw [if_pos c]
      split
      · next c2 => rw [if_pos c2] at h2; omega
      · rfl
    · rw [if_neg c]; simp
  omega
theorem rd_none_past {xs : List Int} {k m : Nat} (hk : m ≤ k) : ¬ some? (xs.take m) k := by
  unfold some?
  have z : ∀ i, m ≤ i → pk (xs.take m) i = 0 := fun i hi => by rw [pk_take, if_neg (by omega)]
  have r : ∀ i, m ≤ i → run dg (xs.take m) i = 0 := fun i hi => by rw [run_take dg0]; omega
  have e1 : p1 (xs.take m) k = k := by unfold p1; rw [sg_past _ _ _ hk]; omega
  have e2 : p2 (xs.take m) k = k := by unfold p2; rw [e1, r k hk]; omega
  rw [e1, r k hk]
  unfold bn
  rw [e2, z k hk]
  simp

theorem take_take_drop {xs : List Int} {m p a : Nat} (h : p + a ≤ m) : ((xs.take m).drop p).take a = (xs.drop p).take a := by
  rw [List.drop_take, List.take_take, Nat.min_eq_left (by omega)]

/-- A literal is the same one in any beginning that holds it whole. -/
theorem lit_take {xs : List Int} {k m : Nat} (hs : some? xs k) (hm : (lit xs k).en ≤ m) : some? (xs.take m) k ∧ lit (xs.take m) k = lit xs k := by
  have q3 := p3_en xs k
  have q2 := p2_p3 xs k
  have q1 : p1 xs k ≤ p2 xs k := by unfold p2; omega
  have q0 : k < m := by
    rcases Nat.lt_or_ge k m with c | c
    · exact c
    · exfalso
      have e1 : p3 xs k = k := by unfold p1 at *; omega
      unfold some? at hs
      have : run dg xs (p1 xs k) = 0 := by unfold p2 p1 at *; omega
      rcases Classical.em (pk xs (p2 xs k) = 46) with c2 | c2
      · have := p3_lt xs k c2; unfold p1 at *; omega
      · apply hs; rw [this]; unfold bn; rw [if_neg c2]
  have e1 : p1 (xs.take m) k = p1 xs k := by unfold p1; rw [sg_take _ _ _ q0]
  have e2 : run dg (xs.take m) (p1 xs k) = run dg xs (p1 xs k) := by rw [run_take dg0]; unfold p2 at *; omega
  have e3 : p2 (xs.take m) k = p2 xs k := by unfold p2; rw [e1, e2]
  have e5 : (pk (xs.take m) (p2 xs k) = 46) ↔ (pk xs (p2 xs k) = 46) := by
    rw [pk_take]
    split
    · exact Iff.rfl
    · next c =>
      constructor
      · intro h; omega
      · intro h; have := p3_lt xs k h; omega
  have e6 : pk xs (p2 xs k) = 46 → run dg (xs.take m) (p2 xs k + 1) = run dg xs (p2 xs k + 1) := by
    intro h
    rw [run_take dg0]
    unfold p3 at q3
    rw [if_pos h] at q3
    omega
  have e7 : bn (xs.take m) k = bn xs k := by
    unfold bn
    rw [e3]
    by_cases c : pk xs (p2 xs k) = 46
    · rw [if_pos c, if_pos (e5.2 c), e6 c]
    · rw [if_neg c, if_neg (fun h => c (e5.1 h))]
  have e8 : p3 (xs.take m) k = p3 xs k := by
    unfold p3
    rw [e3]
    by_cases c : pk xs (p2 xs k) = 46
    · rw [if_pos c, if_pos (e5.2 c), e6 c]
    · rw [if_neg c, if_neg (fun h => c (e5.1 h))]
  have hb : p2 xs k + 1 + bn xs k ≤ m ∨ bn xs k = 0 := by
    unfold bn
    by_cases c : pk xs (p2 xs k) = 46
    · rw [if_pos c]; unfold p3 at q3; rw [if_pos c] at q3; omega
    · rw [if_neg c]; omega
  refine ⟨by unfold some? at *; rw [e1, e2, e7]; exact hs, ?_⟩
  have ea : ((xs.take m).drop (p1 xs k)).take (run dg xs (p1 xs k)) = (xs.drop (p1 xs k)).take (run dg xs (p1 xs k)) := take_take_drop (by unfold p2 at *; omega)
  have eb : ((xs.take m).drop (p2 xs k + 1)).take (bn xs k) = (xs.drop (p2 xs k + 1)).take (bn xs k) := by
    rcases hb with h | h
    · exact take_take_drop h
    · rw [h]; simp
  have ec : decide (pk (xs.take m) k = 45) = decide (pk xs k = 45) := by rw [pk_take, if_pos q0]
  by_cases c : hasE xs (p3 xs k) = true
  · have hen : p4 xs (p3 xs k) + run dg xs (p4 xs (p3 xs k)) ≤ m := by
      have : (lit xs k).en = p4 xs (p3 xs k) + run dg xs (p4 xs (p3 xs k)) := by rw [en_eq, if_pos c]
      omega
    have c' := c
    unfold hasE at c'
    rw [Bool.and_eq_true] at c'
    have h1 : p4 xs (p3 xs k) < m := by
      have := run_succ dg0 c'.2
      omega
    have h0 : p3 xs k + 1 ≤ p4 xs (p3 xs k) := by unfold p4; omega
    have f1 : p4 (xs.take m) (p3 xs k) = p4 xs (p3 xs k) := by unfold p4; rw [sg_take _ _ _ (by omega)]
    have f2 : run dg (xs.take m) (p4 xs (p3 xs k)) = run dg xs (p4 xs (p3 xs k)) := by rw [run_take dg0]; omega
    have f3 : hasE (xs.take m) (p3 xs k) = true := by
      unfold hasE
      rw [f1, pk_take, if_pos (by omega), pk_take, if_pos h1]
      exact c
    have f4 : ((xs.take m).drop (p4 xs (p3 xs k))).take (run dg xs (p4 xs (p3 xs k))) = (xs.drop (p4 xs (p3 xs k))).take (run dg xs (p4 xs (p3 xs k))) := take_take_drop hen
    have f5 : pk (xs.take m) (p3 xs k + 1) = pk xs (p3 xs k + 1) := by rw [pk_take, if_pos (by omega)]
    unfold lit
    rw [e1, e2, e3, e7, e8, if_pos f3, if_pos f3, if_pos c, if_pos c, f1, f2, f4, f5, ea, eb, ec]
  · have f3 : ¬ hasE (xs.take m) (p3 xs k) = true := by
      intro h
      apply c
      unfold hasE at *
      rw [Bool.and_eq_true] at *
      have h1 := isE_lt h.1
      rw [List.length_take] at h1
      have g1 := h.1
      rw [pk_take, if_pos (by omega)] at g1
      refine ⟨g1, ?_⟩
      have g2 := h.2
      by_cases d : p3 xs k + 1 < m
      · have f1 : p4 (xs.take m) (p3 xs k) = p4 xs (p3 xs k) := by unfold p4; rw [sg_take _ _ _ d]
        rw [f1, pk_take] at g2
        split at g2
        · exact g2
        · simp [dg] at g2
      · exfalso
        have f1 : p4 (xs.take m) (p3 xs k) = p3 xs k + 1 := by unfold p4; rw [sg_past _ _ _ (by omega)]
        rw [f1, pk_take, if_neg d] at g2
        simp [dg] at g2
    unfold lit
    rw [e1, e2, e3, e7, e8, if_neg f3, if_neg f3, if_neg c, if_neg c, ea, eb, ec]

/-- A literal is not empty, and ends with a digit or a point. -/
theorem lit_last {xs : List Int} {k : Nat} (hs : some? xs k) : k < (lit xs k).en ∧ bl (pk xs ((lit xs k).en - 1)) = false := by
  have key : ∀ i, k ≤ i → (dg (pk xs i) = true ∨ pk xs i = 46) → i + 1 = (lit xs k).en → k < (lit xs k).en ∧ bl (pk xs ((lit xs k).en - 1)) = false := by
    intro i h1 h2 h3
    refine ⟨by omega, ?_⟩
    rw [← h3, Nat.add_sub_cancel, bl_not]
    rcases h2 with h2 | h2
    · have := dg_iff.1 h2; omega
    · omega
  have k1 : k ≤ p1 xs k := by unfold p1; omega
  by_cases c : hasE xs (p3 xs k) = true
  · have he : (lit xs k).en = p4 xs (p3 xs k) + run dg xs (p4 xs (p3 xs k)) := by rw [en_eq, if_pos c]
    have c' := c
    unfold hasE at c'
    rw [Bool.and_eq_true] at c'
    have h1 := run_succ dg0 c'.2
    have h2 := p2_p3 xs k
    have h0 : p3 xs k + 1 ≤ p4 xs (p3 xs k) := by unfold p4; omega
    refine key (p4 xs (p3 xs k) + (run dg xs (p4 xs (p3 xs k)) - 1)) ?_ (.inl (run_all _ (by omega))) (by omega)
    unfold p2 at h2; omega
  · have he : (lit xs k).en = p3 xs k := by rw [en_eq, if_neg c]
    by_cases c2 : pk xs (p2 xs k) = 46
    · have h3 : p3 xs k = p2 xs k + 1 + run dg xs (p2 xs k + 1) := by unfold p3; rw [if_pos c2]
      by_cases c3 : run dg xs (p2 xs k + 1) = 0
      · refine key (p2 xs k) ?_ (.inr c2) (by omega)
        unfold p2; omega
      · refine key (p2 xs k + 1 + (run dg xs (p2 xs k + 1) - 1)) ?_ (.inl (run_all _ (by omega))) (by omega)
        unfold p2; omega
    · have h3 : p3 xs k = p2 xs k := by unfold p3; rw [if_neg c2]
      have h4 : run dg xs (p1 xs k) ≠ 0 := by
        intro h
        apply hs
        rw [h]; unfold bn; rw [if_neg c2]
      refine key (p1 xs k + (run dg xs (p1 xs k) - 1)) (by omega) (.inl (run_all _ (by omega))) ?_
      rw [he, h3]; unfold p2; omega

/-- A Dec. -/
structure D where
  neg : Bool
  ds : List Int
  e : Int
deriving DecidableEq

def z (x : Int) : Bool := decide (x = 48)
/-- Zeros at the head, at the end. -/
def lz (ds : List Int) : Nat := (ds.takeWhile z).length
def tz (ds : List Int) : Nat := lz ds.reverse
/-- The normal form of digits with an exponent. -/
def nrm (neg : Bool) (ds : List Int) (e : Int) : D :=
  if lz ds = ds.length then ⟨neg, [48], 0⟩ else ⟨neg, (ds.drop (lz ds)).take (ds.length - tz ds - lz ds), e + tz ds⟩
def Lt.d (l : Lt) : D := nrm l.neg (l.ah ++ l.bh) (l.sc - l.bh.length)
end Sc
end Go.Proofs.YtpeecbidojjfpaaDoor

namespace Go.Proofs.YtpeecbidojjfpaaDoor
open Go.RowKit Go.Deep

/-- s has just these bytes. -/
def Str (s : ByteArray) (xs : List Int) : Prop := s.data.toList.map (fun b => (b.toNat : Int)) = xs

theorem Str.self (s : ByteArray) : Str s (s.data.toList.map (fun b => (b.toNat : Int))) := rfl

theorem Str.size {s : ByteArray} {xs : List Int} (h : Str s xs) : s.size = xs.length := by
  rw [← h, List.length_map, Array.length_toList]
  rfl

theorem Str.at {s : ByteArray} {xs : List Int} (h : Str s xs) (t : Nat) (ht : t < s.size) : ((s[t]'ht).toNat : Int) = xs.getD t 0 := by
  rw [← h]
  have : t < s.data.toList.length := by rw [Array.length_toList]; exact ht
  simp only [List.getD_eq_getElem?_getD, List.getElem?_map, List.getElem?_eq_getElem this, Option.map_some, Option.getD_some]
  rfl

theorem Str.mem {s : ByteArray} {xs : List Int} (h : Str s xs) {x : Int} (hx : x ∈ xs) : 0 ≤ x ∧ x < 256 := by
  rw [← h] at hx
  obtain ⟨b, _, rfl⟩ := List.mem_map.1 hx
  have := b.toNat_lt
  omega

theorem Str.atb {s : ByteArray} {xs : List Int} (h : Str s xs) (t : Nat) : 0 ≤ xs.getD t 0 ∧ xs.getD t 0 < 256 := by
  by_cases ht : t < xs.length
  · have : xs.getD t 0 = xs[t] := by simp [List.getD, ht]
    rw [this]
    exact h.mem (List.getElem_mem ht)
  · rw [show xs.getD t 0 = 0 by simp [List.getD, List.getElem?_eq_none (show xs.length ≤ t by omega)]]
    omega

theorem Str.extract {s : ByteArray} {xs : List Int} (h : Str s xs) (a b : Nat) : Str (s.extract a b) ((xs.drop a).take (b - a)) := by
  unfold Str at *
  rw [← h, ByteArray.data_extract]
  simp [List.map_drop, List.map_take]

theorem Str.of_nums {xs : List Int} (h : ∀ x ∈ xs, 0 ≤ x ∧ x < 256) : Str (strOfNums xs) xs := by
  unfold Str
  rw [strOfNums_data, List.map_map]
  conv => rhs; rw [← List.map_id xs]
  apply List.map_congr_left
  intro x hx
  have := h x hx
  simp only [Function.comp, id]
  rw [UInt8.toNat_ofNat_of_lt' (by show x.toNat < 256; omega)]
  omega

theorem Str.inj {s t : ByteArray} {xs : List Int} (h : Str s xs) (k : Str t xs) : s = t := by
  unfold Str at h k
  have e : s.data.toList = t.data.toList := by
    rw [← k] at h
    exact List.map_inj_right (fun a b hab => by
      have : a.toNat = b.toNat := by omega
      exact UInt8.toNat_inj.1 this) |>.1 h
  cases s
  cases t
  simp only at e
  rw [Array.toList_inj.1 e]

/-- s == t, asked by the bytes. -/
theorem Str.eq {s t : ByteArray} {xs ys : List Int} (h : Str s xs) (k : Str t ys) : (s.toList == t.toList) = decide (xs = ys) := by
  by_cases e : xs = ys
  · subst e
    rw [h.inj k]
    simp
  · rw [decide_eq_false e, beq_eq_false_iff_ne]
    intro c
    apply e
    rw [ByteArray.toList_eq, ByteArray.toList_eq] at c
    rw [← h, ← k, c]
theorem str_nil0 : Str ⟨#[]⟩ [] := rfl
end Go.Proofs.YtpeecbidojjfpaaDoor

namespace Go.Proofs.YtpeecbidojjfpaaDoor
open Go.RowKit Go.Deep Go.Shelf

def vcloneRen : Go.Shelf.Ren := ⟨fun _ => 73, fun t => if t = 37 then 105 else if t = 47 then 106 else if t = 5 then 5 else if t = 9 then 9 else if t = 3 then 3 else t, fun g => g⟩
theorem vcloneLays : LaysPu.n25 Tryd.prog vcloneRen where
  mixed := by kernel_rfl
  f25 := by kernel_rfl
  t0 := by kernel_rfl
  a0 := fun _ => by kernel_rfl
  z0 := fun _ => by kernel_rfl
  v0 := fun _ => by kernel_rfl
  i0 := by kernel_rfl
  t3 := by kernel_rfl
  a3 := fun _ => by kernel_rfl
  z3 := fun _ => by kernel_rfl
  v3 := fun _ => by kernel_rfl
  i3 := by kernel_rfl
  t4 := by kernel_rfl
  a4 := fun _ => by kernel_rfl
  z4 := fun _ => by kernel_rfl
  v4 := fun _ => by kernel_rfl
  i4 := by kernel_rfl
  t5 := by kernel_rfl
  a5 := fun _ => by kernel_rfl
  z5 := fun _ => by kernel_rfl
  v5 := fun _ => by kernel_rfl
  i5 := by kernel_rfl
  t9 := by kernel_rfl
  a9 := fun _ => by kernel_rfl
  z9 := fun _ => by kernel_rfl
  v9 := fun _ => by kernel_rfl
  i9 := by kernel_rfl
  t37 := by kernel_rfl
  a37 := fun _ => by kernel_rfl
  z37 := fun _ => by kernel_rfl
  v37 := fun _ => by kernel_rfl
  i37 := by kernel_rfl
  t47 := by kernel_rfl
  a47 := fun _ => by kernel_rfl
  z47 := fun _ => by kernel_rfl
  v47 := fun _ => by kernel_rfl
  i47 := by kernel_rfl

theorem vclone_any (s : ByteArray) (w : World) (hs : s.size ≤ 281474976710656) : Calls Tryd.prog 54 #[.string s] w fun e w' => e = .returned (.string s) ∧ Below w.heap.size w w' := by
  have C : Hid (Calls Tryd.prog 73 #[.string s] w fun e w' => e = .returned (.string s) ∧ Below w.heap.size w w') := AnyPu.stringslite_Clone vcloneLays s w (by omega)
  go_enter Tryd.func54, Tryd.ntmps54
  go_wp2_with fail
  refine C.out.mono ?_
  rintro e w1 ⟨rfl, d1⟩
  have D := hid d1
  clear d1
  go_wp2_with fail
  go_ret
  exact ⟨rfl, D.out⟩
end Go.Proofs.YtpeecbidojjfpaaDoor

/-
  A whole number beside a double: one answer (split of UOne).
-/
namespace Go.Proofs.YtpeecbidojjfpaaDoor
namespace Ie

theorem kind3 (d : Int) : isn d = true ∨ isi d = true ∨ fin d := by
  simp only [isn, isi, fin, decide_eq_true_iff]
  omega

theorem WIs.one {d r r' : Int} {up : Bool} (h : WIs d up r) (h' : WIs d up r') : r = r' := by
  rcases kind3 d with k | k | k
  · rw [h.1 k, h'.1 k]
  · rw [h.2.1 k, h'.2.1 k]
  · obtain ⟨y, rfl, y0, -, a, b⟩ := h.2.2 k
    obtain ⟨y', rfl, y0', -, a', b'⟩ := h'.2.2 k
    cases g : intg d
    · rw [un_inj y0 y0' ((b g).trans (b' g).symm)]
    · rw [a g, a' g]

end Ie
end Go.Proofs.YtpeecbidojjfpaaDoor

namespace Go.Proofs.YtpeecbidojjfpaaDoor
open Go
namespace Ch

abbrev L8 := List UInt8
/-- The text of a list of bytes. -/
def tx (l : L8) : ByteArray := ⟨l.toArray⟩
theorem tx_data (l : L8) : (tx l).data.toList = l := by simp [tx]
theorem tx_self (s : ByteArray) : tx s.data.toList = s := by simp [tx]
theorem tx_size (l : L8) : (tx l).size = l.length := by
  show (tx l).data.size = _
  rw [← Array.length_toList, tx_data]
theorem tx_inj {a b : L8} (h : tx a = tx b) : a = b := by rw [← tx_data a, h, tx_data]
theorem size_len (s : ByteArray) : s.data.toList.length = s.size := by rw [Array.length_toList]; rfl
theorem tx_ext (s : ByteArray) (a b : Nat) : s.extract a b = tx ((s.data.toList.drop a).take (b - a)) := Lib.extract_eq s a b
theorem tx_nil : tx [] = ByteArray.empty := rfl

/-- The first n of the texts, sep between. -/
def jt (sep : L8) (xs : List ByteArray) : Nat → L8
  | 0 => []
  | n + 1 => jt sep xs n ++ ((if n = 0 then [] else sep) ++ (xs.getD n ByteArray.empty).data.toList)
def jn (sep : L8) (xs : List ByteArray) : L8 := jt sep xs xs.length
/-- The texts, sep ahead of each. -/
def ja (sep : L8) : List ByteArray → L8
  | [] => []
  | x :: r => sep ++ (x.data.toList ++ ja sep r)

theorem ja_app (sep : L8) (xs ys : List ByteArray) : ja sep (xs ++ ys) = ja sep xs ++ ja sep ys := by
  induction xs with
  | nil => rfl
  | cons x r ih => simp [ja, ih]
theorem jt_cons (sep : L8) (x : ByteArray) (r : List ByteArray) : ∀ n, n ≤ r.length → jt sep (x :: r) (n + 1) = x.data.toList ++ ja sep (r.take n)
  | 0, _ => by simp [jt, ja]
  | n + 1, h => by
    rw [jt, jt_cons sep x r n (by omega), if_neg (by omega)]
    have e : r.take (n + 1) = r.take n ++ [r[n]'(by omega)] := by rw [List.take_append_getElem]
    have g : (x :: r).getD (n + 1) ByteArray.empty = r[n]'(by omega) := by simp [List.getD, List.getElem?_eq_getElem (show n < r.length by omega)]
    rw [e, ja_app, g]
    simp [ja]
theorem jn_nil (sep : L8) : jn sep [] = [] := rfl
theorem jn_cons (sep : L8) (x : ByteArray) (r : List ByteArray) : jn sep (x :: r) = x.data.toList ++ ja sep r := by
  rw [jn, List.length_cons, jt_cons sep x r r.length (Nat.le_refl _), List.take_length]
theorem jt_len_mono (sep : L8) (xs : List ByteArray) : ∀ {m n : Nat}, m ≤ n → (jt sep xs m).length ≤ (jt sep xs n).length := by
  intro m n h
  induction h with
  | refl => exact Nat.le_refl _
  | step h ih => exact Nat.le_trans ih (by rw [jt, List.length_append]; omega)

/-- Cut at sep as often as it stands, and joined by sep: the text. -/
theorem join_splitK (sep : L8) (hsep : sep ≠ []) : ∀ (k : Nat) (s : L8), ∃ x r, Lib.splitK sep 0 k s = x :: r ∧ x ++ ja sep (r.map tx) = s
  | 0, s => ⟨s, [], rfl, by simp [ja]⟩
  | k + 1, s => by
    unfold Lib.splitK
    rcases Lib.index_spec s sep with ⟨h, _⟩ | ⟨i, h, hi, ho, _⟩
    · rw [if_pos (by simp [h])]
      exact ⟨s, [], rfl, by simp [ja]⟩
    · rw [if_neg (by rw [h]; simp), h]
      obtain ⟨y, r, e1, e2⟩ := join_splitK sep hsep k (s.drop (i + sep.length))
      refine ⟨s.take i, y :: r, by rw [← e1]; simp, ?_⟩
      have hr : i + sep.length ≤ s.length := by rcases Lib.occAt_room ho with h | h; exact h; exact absurd h hsep
      have h2 := Lib.occAt_iff_take s sep i hr
      rw [ho] at h2
      have h3 : (s.drop i).take sep.length = sep := by simpa using h2.symm
      rw [List.map_cons, ja, tx_data, e2]
      conv => rhs; rw [← List.take_append_drop i s, ← List.take_append_drop sep.length (s.drop i), h3, List.drop_drop]
/-- No part holds the separator. -/
theorem splitK_free (sep : L8) (hsep : sep ≠ []) : ∀ (k : Nat) (s : L8), k = Lib.count s sep → ∀ x ∈ Lib.splitK sep 0 k s, Lib.index x sep = -1
  | 0, s, hk, x, hx => by
    rcases Lib.index_spec s sep with ⟨h, _⟩ | ⟨i, h, hi, ho, _⟩
    · simp [Lib.splitK] at hx; rw [hx]; exact h
    · rw [Lib.count_hit hsep h] at hk; omega
  | k + 1, s, hk, x, hx => by
    rcases Lib.index_spec s sep with ⟨h, _⟩ | ⟨i, h, hi, ho, hn⟩
    · rw [Lib.count_miss h] at hk; omega
    · rw [Lib.count_hit hsep h] at hk
      unfold Lib.splitK at hx
      rw [if_neg (by rw [h]; simp), h] at hx
      rcases List.mem_cons.1 hx with rfl | hx
      · refine Lib.index_none fun j hj => ?_
        have hr : i + sep.length ≤ s.length := by rcases Lib.occAt_room ho with h | h; exact h; exact absurd h hsep
        by_cases hc : Lib.occAt (s.take ((i : Int).toNat + 0)) sep j = true
        · exfalso
          have hl : (s.take ((i : Int).toNat + 0)).length = i := by simp; omega
          have hr2 : j + sep.length ≤ i := by rcases Lib.occAt_room hc with h | h; rw [hl] at h; exact h; exact absurd h hsep
          have hpos : 0 < sep.length := List.length_pos_iff.2 hsep
          have h3 := Lib.occAt_iff_take _ sep j (by rw [hl]; exact hr2)
          rw [hc] at h3
          have h4 := Lib.occAt_iff_take s sep j (by omega)
          rw [hn j (by omega)] at h4
          have h5 : ((s.take ((i : Int).toNat + 0)).drop j).take sep.length = (s.drop j).take sep.length := by
            rw [List.drop_take, List.take_take]
            congr 1
            simp
            omega
          rw [h5, ← h4] at h3
          cases h3
        · simpa using hc
      · exact splitK_free sep hsep k _ (by simpa using (by omega : k = Lib.count (s.drop (i + sep.length)) sep)) x (by simpa using hx)

/-- The parts by a text that isn't empty. -/
def cut (s sep : ByteArray) : List ByteArray := Lib.splitB sep 0 (Lib.countB s sep) s
theorem cut_data (s sep : ByteArray) : (cut s sep).map (·.data.toList) = Lib.splitK sep.data.toList 0 (Lib.count s.data.toList sep.data.toList) s.data.toList := Lib.splitB_data sep 0 _ s
theorem map_tx (xs : List ByteArray) : (xs.map (·.data.toList)).map tx = xs := by
  rw [List.map_map]
  conv => rhs; rw [← List.map_id xs]
  exact List.map_congr_left fun x _ => tx_self x
theorem sep_ne {sep : ByteArray} (h : 1 ≤ sep.size) : sep.data.toList ≠ [] := by
  intro e
  have := size_len sep
  rw [e] at this
  simp at this
  omega
theorem cut_join (s sep : ByteArray) (h : 1 ≤ sep.size) : jn sep.data.toList (cut s sep) = s.data.toList := by
  obtain ⟨x, r, e1, e2⟩ := join_splitK sep.data.toList (sep_ne h) (Lib.count s.data.toList sep.data.toList) s.data.toList
  have e3 := cut_data s sep
  rw [e1] at e3
  have e4 : cut s sep = tx x :: r.map tx := by rw [← map_tx (cut s sep), e3]; rfl
  rw [e4, jn_cons, tx_data, e2]
theorem cut_free (s sep : ByteArray) (h : 1 ≤ sep.size) : ∀ x ∈ cut s sep, Lib.index x.data.toList sep.data.toList = -1 := by
  intro x hx
  exact splitK_free _ (sep_ne h) _ _ rfl _ (by rw [← cut_data s sep]; exact List.mem_map.2 ⟨x, hx, rfl⟩)
theorem cut_len (s sep : ByteArray) (h : 1 ≤ sep.size) : (cut s sep).length = Lib.countB s sep + 1 := Lib.splitB_all sep h 0 _ s rfl

/-- Byte by byte. -/
def sg (s : ByteArray) : List ByteArray := s.data.toList.map fun c => ⟨#[c]⟩
theorem sg_len (s : ByteArray) : (sg s).length = s.size := by rw [sg, List.length_map, size_len]
theorem ja_sg : ∀ l : L8, ja [] (l.map fun c => (⟨#[c]⟩ : ByteArray)) = l
  | [] => rfl
  | c :: r => by rw [List.map_cons, ja, ja_sg r]; rfl
theorem sg_join (s : ByteArray) : jn [] (sg s) = s.data.toList := by
  unfold sg
  rcases h : s.data.toList with _ | ⟨c, r⟩
  · rfl
  · rw [List.map_cons, jn_cons, ja_sg]; rfl
theorem sg_one (s : ByteArray) : ∀ x ∈ sg s, x.size = 1 := by
  intro x hx
  obtain ⟨c, _, rfl⟩ := List.mem_map.1 hx
  rfl
theorem sg_at (s : ByteArray) (i : Nat) (h : i < s.size) : (sg s)[i]? = some (s.extract i (i + 1)) := by
  have hl : i < s.data.toList.length := by rw [size_len]; exact h
  rw [tx_ext, sg, List.getElem?_map, List.getElem?_eq_getElem hl, Nat.add_sub_cancel_left, List.drop_eq_getElem_cons hl]
  rfl
theorem sg_take (s : ByteArray) (i : Nat) (h : i < s.size) : (sg s).take (i + 1) = (sg s).take i ++ [s.extract i (i + 1)] := by
  have hl : i < (sg s).length := by rw [sg_len]; exact h
  have := sg_at s i h
  rw [List.getElem?_eq_getElem hl] at this
  rw [← Option.some.inj this, List.take_append_getElem]

/-- A blank; none. -/
def bl (c : UInt8) : Bool := decide (c.toNat = 32) || (decide (9 ≤ c.toNat) && decide (c.toNat ≤ 13))
def nb (c : UInt8) : Bool := !bl c
/-- The runs of bytes that are no blanks. -/
def wl (l : L8) : List L8 :=
  match l with
  | [] => []
  | c :: r => (if (c :: r).takeWhile nb = [] then [] else [(c :: r).takeWhile nb]) ++ wl ((c :: r).drop (((c :: r).takeWhile nb).length + 1))
termination_by l.length
decreasing_by simp; omega
theorem wl_nil : wl [] = [] := by rw [wl]
theorem wl_step (l : L8) (h : l ≠ []) : wl l = (if l.takeWhile nb = [] then [] else [l.takeWhile nb]) ++ wl (l.drop ((l.takeWhile nb).length + 1)) := by
  cases l with
  | nil => exact absurd rfl h
  | cons c r => rw [wl]
def wd (s : ByteArray) : List ByteArray := (wl s.data.toList).map tx

theorem tw_drop (l : L8) : l.drop (l.takeWhile nb).length = l.dropWhile nb := by
  have e : l.drop (l.takeWhile nb).length = (l.takeWhile nb ++ l.dropWhile nb).drop (l.takeWhile nb).length := by rw [List.takeWhile_append_dropWhile]
  rw [e, List.drop_left]
/-- An induction along the runs. -/
theorem run_ind {P : L8 → Prop} (h0 : P []) (h1 : ∀ t : L8, (∀ c ∈ t, nb c = true) → t ≠ [] → P t) (h2 : ∀ (t : L8) (b : UInt8) (r : L8), (∀ c ∈ t, nb c = true) → bl b = true → P r → P (t ++ b :: r)) : ∀ (n : Nat) (l : L8), l.length ≤ n → P l
  | 0, l, h => by rw [List.length_eq_zero_iff.1 (Nat.le_zero.1 h)]; exact h0
  | n + 1, l, h => by
    have e : l = l.takeWhile nb ++ l.dropWhile nb := (List.takeWhile_append_dropWhile).symm
    have ht : ∀ c ∈ l.takeWhile nb, nb c = true := fun c hc => List.all_eq_true.1 List.all_takeWhile c hc
    rcases hd : l.dropWhile nb with _ | ⟨b, r⟩
    · rw [hd, List.append_nil] at e
      by_cases hn : l = []
      · rw [hn]; exact h0
      · rw [e]; exact h1 _ ht (by rw [← e]; exact hn)
    · have hb : bl b = true := by
        have := List.head?_dropWhile_not nb l
        rw [hd] at this
        simpa [nb] using this
      rw [e, hd]
      refine h2 _ _ _ ht hb (run_ind h0 h1 h2 n r ?_)
      rw [e, hd] at h
      simp at h
      omega
theorem tw_all (t : L8) (ht : ∀ c ∈ t, nb c = true) : t.takeWhile nb = t := by
  induction t with
  | nil => rfl
  | cons c r ih => rw [List.takeWhile_cons, if_pos (ht c List.mem_cons_self), ih fun x hx => ht x (List.mem_cons_of_mem _ hx)]
theorem tw_app (t : L8) (b : UInt8) (r : L8) (ht : ∀ c ∈ t, nb c = true) (hb : bl b = true) : (t ++ b :: r).takeWhile nb = t := by
  induction t with
  | nil => simp [nb, hb]
  | cons c u ih => rw [List.cons_append, List.takeWhile_cons, if_pos (ht c List.mem_cons_self), ih fun x hx => ht x (List.mem_cons_of_mem _ hx)]
theorem wl_all (t : L8) (ht : ∀ c ∈ t, nb c = true) (hn : t ≠ []) : wl t = [t] := by
  rw [wl_step t hn, tw_all t ht, if_neg hn]
  rw [List.drop_eq_nil_of_le (by omega), wl_nil, List.append_nil]
theorem wl_app (t : L8) (b : UInt8) (r : L8) (ht : ∀ c ∈ t, nb c = true) (hb : bl b = true) : wl (t ++ b :: r) = (if t = [] then [] else [t]) ++ wl r := by
  rw [wl_step _ (by simp), tw_app t b r ht hb]
  congr 2
  rw [← List.drop_drop]
  simp
theorem wl_flat (l : L8) : (wl l).flatten = l.filter nb := by
  refine run_ind (P := fun l => (wl l).flatten = l.filter nb) (by rw [wl_nil]; rfl) ?_ ?_ l.length l (Nat.le_refl _)
  · intro t ht hn
    rw [wl_all t ht hn]
    simp only [List.flatten_cons, List.flatten_nil, List.append_nil]
    exact (List.filter_eq_self.2 ht).symm
  · intro t b r ht hb ih
    rw [wl_app t b r ht hb, List.flatten_append, ih, List.filter_append, List.filter_eq_self.2 ht, List.filter_cons, show nb b = false by rw [nb, hb]; rfl]
    congr 1
    by_cases h : t = [] <;> simp [h]
theorem wl_good (l : L8) : ∀ x ∈ wl l, x ≠ [] ∧ ∀ c ∈ x, bl c = false := by
  have nbf : ∀ t : L8, (∀ c ∈ t, nb c = true) → ∀ c ∈ t, bl c = false := fun t ht c hc => by have := ht c hc; simpa [nb] using this
  refine run_ind (P := fun l => ∀ x ∈ wl l, x ≠ [] ∧ ∀ c ∈ x, bl c = false) (by rw [wl_nil]; intro x hx; cases hx) ?_ ?_ l.length l (Nat.le_refl _)
  · intro t ht hn x hx
    rw [wl_all t ht hn] at hx
    simp at hx
    subst hx
    exact ⟨hn, nbf _ ht⟩
  · intro t b r ht hb ih x hx
    rw [wl_app t b r ht hb] at hx
    rcases List.mem_append.1 hx with hx | hx
    · by_cases h : t = []
      · simp [h] at hx
      · simp [h] at hx
        subst hx
        exact ⟨h, nbf _ ht⟩
    · exact ih x hx
theorem ja_flat : ∀ ls : List L8, ja [] (ls.map tx) = ls.flatten
  | [] => rfl
  | x :: r => by rw [List.map_cons, ja, ja_flat r, tx_data]; simp
theorem jn_flat (ls : List L8) : jn [] (ls.map tx) = ls.flatten := by
  cases ls with
  | nil => rfl
  | cons x r => rw [List.map_cons, jn_cons, ja_flat, tx_data]; rfl
theorem wd_join (s : ByteArray) : jn [] (wd s) = s.data.toList.filter nb := by rw [wd, jn_flat, wl_flat]
theorem wd_good (s : ByteArray) : ∀ x ∈ wd s, x.data.toList ≠ [] ∧ ∀ c ∈ x.data.toList, bl c = false := by
  intro x hx
  obtain ⟨l, hl, rfl⟩ := List.mem_map.1 hx
  rw [tx_data]
  exact wl_good _ l hl

/-- How many runs begin among the first n bytes. -/
def bg (l : L8) : Nat → Nat
  | 0 => 0
  | n + 1 => bg l n + (if nb (l.getD n 0) && (decide (n = 0) || bl (l.getD (n - 1) 0)) then 1 else 0)
/-- How many runs begin, by what stood ahead. -/
def bs : Bool → L8 → Nat
  | _, [] => 0
  | p, c :: r => (if nb c && p then 1 else 0) + bs (bl c) r
theorem bs_bg (l : L8) : ∀ n, n ≤ l.length → bs true l = bg l n + bs (decide (n = 0) || bl (l.getD (n - 1) 0)) (l.drop n)
  | 0, _ => by simp [bg]
  | n + 1, h => by
    rw [bs_bg l n (by omega), bg, List.drop_eq_getElem_cons (show n < l.length by omega), bs]
    have e : l.getD n 0 = l[n]'(by omega) := by simp [List.getD, List.getElem?_eq_getElem (show n < l.length by omega)]
    rw [show (decide (n + 1 = 0) || bl (l.getD (n + 1 - 1) 0)) = bl (l[n]'(by omega)) by rw [Nat.add_sub_cancel, e]; simp, e]
    omega
theorem bs_all (t : L8) (ht : ∀ c ∈ t, nb c = true) : bs false t = 0 := by
  induction t with
  | nil => rfl
  | cons c r ih =>
    have h := ht c List.mem_cons_self
    have hb : bl c = false := by simpa [nb] using h
    rw [bs, hb, ih fun x hx => ht x (List.mem_cons_of_mem _ hx)]
    simp
theorem bs_app (t : L8) (b : UInt8) (r : L8) (ht : ∀ c ∈ t, nb c = true) (hb : bl b = true) (p : Bool) : bs p (t ++ b :: r) = (if t ≠ [] ∧ p = true then 1 else 0) + bs true r := by
  induction t generalizing p with
  | nil => simp [bs, hb, nb]
  | cons c u ih =>
    have h := ht c List.mem_cons_self
    have hc : bl c = false := by simpa [nb] using h
    rw [List.cons_append, bs, hc, ih (fun x hx => ht x (List.mem_cons_of_mem _ hx)), h]
    simp
theorem bs_wl (l : L8) : (wl l).length = bs true l := by
  refine run_ind (P := fun l => (wl l).length = bs true l) (by rw [wl_nil]; rfl) ?_ ?_ l.length l (Nat.le_refl _)
  · intro t ht hn
    rw [wl_all t ht hn]
    cases t with
    | nil => exact absurd rfl hn
    | cons c r =>
      have h := ht c List.mem_cons_self
      have hc : bl c = false := by simpa [nb] using h
      rw [bs, hc, bs_all r fun x hx => ht x (List.mem_cons_of_mem _ hx), h]
      rfl
  · intro t b r ht hb ih
    rw [wl_app t b r ht hb, List.length_append, ih, bs_app t b r ht hb]
    by_cases h : t = [] <;> simp [h]
theorem wd_len (s : ByteArray) : (wd s).length = bg s.data.toList s.size := by
  have e := bs_bg s.data.toList s.size (by rw [size_len]; exact Nat.le_refl _)
  rw [List.drop_eq_nil_of_le (by rw [size_len]; exact Nat.le_refl _)] at e
  rw [wd, List.length_map, bs_wl, e]
  rfl
theorem bg_le (l : L8) : ∀ n, bg l n ≤ n
  | 0 => Nat.le_refl _
  | n + 1 => by have := bg_le l n; rw [bg]; split <;> omega
theorem wd_le (s : ByteArray) : (wd s).length ≤ s.size := by rw [wd_len]; exact bg_le _ _
end Ch
end Go.Proofs.YtpeecbidojjfpaaDoor
