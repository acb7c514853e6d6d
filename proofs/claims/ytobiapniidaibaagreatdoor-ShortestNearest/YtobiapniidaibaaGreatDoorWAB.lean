/-
  Texts put together: VNum, VNum2, VOrd, VDl, LNmN.
-/
import Derived.Lib.ItoaNum
namespace Go.Proofs.YtobiapniidaibaaGreatDoor
namespace Sc

def pk (xs : List Int) (i : Nat) : Int := xs.getD i 0
def dg (x : Int) : Bool := decide (48 ≤ x) && decide (x ≤ 57)
def bl (x : Int) : Bool := decide (x = 32) || (decide (9 ≤ x) && decide (x ≤ 13))
/-- How many bytes from place i on have p, one behind the other. -/
def run (p : Int → Bool) (xs : List Int) (i : Nat) : Nat := ((xs.drop i).takeWhile p).length
def sg (xs : List Int) (i : Nat) : Nat := if pk xs i = 43 ∨ pk xs i = 45 then 1 else 0

theorem dg_iff {x : Int} : dg x = true ↔ 48 ≤ x ∧ x ≤ 57 := by simp [dg]
theorem dg_not {x : Int} : dg x = false ↔ ¬ (48 ≤ x ∧ x ≤ 57) := by rw [← dg_iff]; simp
theorem bl_iff {x : Int} : bl x = true ↔ x = 32 ∨ (9 ≤ x ∧ x ≤ 13) := by simp [bl]
theorem bl_not {x : Int} : bl x = false ↔ ¬ (x = 32 ∨ (9 ≤ x ∧ x ≤ 13)) := by rw [← bl_iff]; simp

theorem pk_ge {xs : List Int} {i : Nat} (h : xs.length ≤ i) : pk xs i = 0 := by simp [pk, List.getD, List.getElem?_eq_none h]
theorem pk_lt {xs : List Int} {i : Nat} (h : pk xs i ≠ 0) : i < xs.length := by
  rcases Nat.lt_or_ge i xs.length with c | c
  · exact c
  · exact absurd (pk_ge c) h
theorem pk_take (xs : List Int) (m i : Nat) : pk (xs.take m) i = if i < m then pk xs i else 0 := by
  unfold pk
  by_cases h : i < m
  · simp [List.getD, h]
  · simp [List.getD, List.getElem?_take, h]
theorem pk_drop (xs : List Int) (m i : Nat) : pk (xs.drop m) i = pk xs (m + i) := by simp [pk, List.getD, List.getElem?_drop]
theorem pk_append (xs ys : List Int) (i : Nat) : pk (xs ++ ys) i = if i < xs.length then pk xs i else pk ys (i - xs.length) := by
  by_cases h : i < xs.length
  · simp [pk, List.getD, List.getElem?_append_left h, h]
  · simp [pk, List.getD, List.getElem?_append_right (Nat.le_of_not_lt h), h]

theorem run_step {p : Int → Bool} (hp : p 0 = false) (xs : List Int) (i : Nat) : run p xs i = if p (pk xs i) = true then run p xs (i + 1) + 1 else 0 := by
  unfold run
  rcases Nat.lt_or_ge i xs.length with h | h
  · rw [List.drop_eq_getElem_cons h, List.takeWhile_cons]
    have e : pk xs i = xs[i] := by simp [pk, List.getD, h]
    rw [e]
    split <;> simp
  · rw [List.drop_of_length_le h, pk_ge h, hp]
    simp

theorem run_zero {p : Int → Bool} (hp : p 0 = false) {xs : List Int} {i : Nat} (h : p (pk xs i) = false) : run p xs i = 0 := by
  rw [run_step hp, h]; simp
theorem run_succ {p : Int → Bool} (hp : p 0 = false) {xs : List Int} {i : Nat} (h : p (pk xs i) = true) : run p xs i = run p xs (i + 1) + 1 := by
  rw [run_step hp, h]; simp
theorem run_pos {p : Int → Bool} (hp : p 0 = false) {xs : List Int} {i : Nat} (h : 0 < run p xs i) : p (pk xs i) = true := by
  cases c : p (pk xs i) with
  | true => rfl
  | false => rw [run_zero hp c] at h; omega
theorem run_le (p : Int → Bool) (xs : List Int) (i : Nat) : run p xs i ≤ xs.length - i := by
  unfold run
  have := List.IsPrefix.length_le (List.takeWhile_prefix p (l := xs.drop i))
  rw [List.length_drop] at this
  exact this
theorem run_all {p : Int → Bool} {xs : List Int} {i : Nat} : ∀ j, j < run p xs i → p (pk xs (i + j)) = true := by
  intro j hj
  have h1 := List.takeWhile_prefix p (l := xs.drop i)
  obtain ⟨t, ht⟩ := h1
  have h2 : (xs.drop i)[j]? = ((xs.drop i).takeWhile p)[j]? := by
    conv => lhs; rw [← ht]
    rw [List.getElem?_append_left hj]
  rw [List.getElem?_drop, List.getElem?_eq_getElem hj] at h2
  have h3 : pk xs (i + j) = ((xs.drop i).takeWhile p)[j] := by simp [pk, List.getD, h2]
  rw [h3]
  have := List.all_takeWhile (p := p) (l := xs.drop i)
  rw [List.all_eq_true] at this
  exact this _ (List.getElem_mem hj)
theorem run_end {p : Int → Bool} (hp : p 0 = false) {xs : List Int} : ∀ (n i : Nat), run p xs i = n → p (pk xs (i + n)) = false := by
  intro n
  induction n with
  | zero =>
    intro i h
    rw [Nat.add_zero]
    cases c : p (pk xs i) with
    | false => rfl
    | true => rw [run_succ hp c] at h; omega
  | succ n ih =>
    intro i h
    have h1 := run_pos hp (show 0 < run p xs i by omega)
    rw [run_succ hp h1] at h
    have := ih (i + 1) (by omega)
    rw [show i + (n + 1) = i + 1 + n by omega]
    exact this
/-- A run is what it is: n bytes have p, the next one has not. -/
theorem run_is {p : Int → Bool} (hp : p 0 = false) {xs : List Int} : ∀ (n i : Nat), (∀ j, j < n → p (pk xs (i + j)) = true) → p (pk xs (i + n)) = false → run p xs i = n := by
  intro n
  induction n with
  | zero => intro i _ h; exact run_zero hp h
  | succ n ih =>
    intro i h1 h2
    have h0 := h1 0 (by omega)
    rw [Nat.add_zero] at h0
    rw [run_succ hp h0]
    rw [ih (i + 1) (fun j hj => by rw [show i + 1 + j = i + (j + 1) by omega]; exact h1 (j + 1) (by omega)) (by rw [show i + 1 + n = i + (n + 1) by omega]; exact h2)]
theorem run_take {p : Int → Bool} (hp : p 0 = false) (xs : List Int) (m i : Nat) : run p (xs.take m) i = min (run p xs i) (m - i) := by
  apply run_is hp
  · intro j hj
    rw [pk_take, if_pos (by omega)]
    exact run_all j (by omega)
  · rw [pk_take]
    by_cases c : i + min (run p xs i) (m - i) < m
    · rw [if_pos c, show min (run p xs i) (m - i) = run p xs i by omega]
      exact run_end hp _ _ rfl
    · rw [if_neg c]; exact hp

theorem dg0 : dg 0 = false := rfl
theorem bl0 : bl 0 = false := rfl

/-- A literal's parts: its sign, the digits ahead of and behind the point, the exponent that is written, the place behind it. -/
structure Lt where
  neg : Bool
  ah : List Int
  bh : List Int
  sc : Int
  en : Nat

/-- An exponent's digits as a number, cut at 10^15. -/
def cap (l : List Int) : Int := l.foldl (fun s x => min (10 * s + (x - 48)) 1000000000000000) 0
theorem cap_nil : cap [] = 0 := rfl
theorem cap_snoc (l : List Int) (x : Int) : cap (l ++ [x]) = min (10 * cap l + (x - 48)) 1000000000000000 := by simp [cap]
theorem take_snoc {xs : List Int} {v c : Nat} (h : v + c < xs.length) : (xs.drop v).take (c + 1) = (xs.drop v).take c ++ [pk xs (v + c)] := by
  rw [List.take_add_one, List.getElem?_drop, List.getElem?_eq_getElem h]
  simp [pk, List.getD, h]
theorem cap_b : ∀ (l : List Int), (∀ x ∈ l, dg x = true) → 0 ≤ cap l ∧ cap l ≤ 1000000000000000 := by
  intro l
  rw [← List.reverse_reverse l]
  induction l.reverse with
  | nil => intro _; simp [cap]
  | cons x t ih =>
    intro h
    rw [List.reverse_cons, cap_snoc]
    have h1 := ih (fun y hy => h y (by simp at hy ⊢; exact .inl hy))
    have h2 := dg_iff.1 (h x (by simp))
    omega

/-- Where the digits behind the sign begin. -/
def p1 (xs : List Int) (k : Nat) : Nat := k + sg xs k
/-- Where they end. -/
def p2 (xs : List Int) (k : Nat) : Nat := p1 xs k + run dg xs (p1 xs k)
/-- How many digits stand behind the point. -/
def bn (xs : List Int) (k : Nat) : Nat := if pk xs (p2 xs k) = 46 then run dg xs (p2 xs k + 1) else 0
/-- The place behind the digits and the point. -/
def p3 (xs : List Int) (k : Nat) : Nat := if pk xs (p2 xs k) = 46 then p2 xs k + 1 + run dg xs (p2 xs k + 1) else p2 xs k
/-- Where the exponent's digits begin, behind a letter at t. -/
def p4 (xs : List Int) (t : Nat) : Nat := t + 1 + sg xs (t + 1)
def isE (x : Int) : Bool := decide (x = 101) || decide (x = 69)
/-- Has it an exponent? -/
def hasE (xs : List Int) (t : Nat) : Bool := isE (pk xs t) && dg (pk xs (p4 xs t))
def some? (xs : List Int) (k : Nat) : Prop := run dg xs (p1 xs k) + bn xs k ≠ 0
instance (xs : List Int) (k : Nat) : Decidable (some? xs k) := inferInstanceAs (Decidable (_ ≠ _))
def lit (xs : List Int) (k : Nat) : Lt :=
  { neg := decide (pk xs k = 45)
    ah := (xs.drop (p1 xs k)).take (run dg xs (p1 xs k))
    bh := (xs.drop (p2 xs k + 1)).take (bn xs k)
    sc := if hasE xs (p3 xs k) = true then (if pk xs (p3 xs k + 1) = 45 then - cap ((xs.drop (p4 xs (p3 xs k))).take (run dg xs (p4 xs (p3 xs k)))) else cap ((xs.drop (p4 xs (p3 xs k))).take (run dg xs (p4 xs (p3 xs k))))) else 0
    en := if hasE xs (p3 xs k) = true then p4 xs (p3 xs k) + run dg xs (p4 xs (p3 xs k)) else p3 xs k }
def rd (xs : List Int) (k : Nat) : Option Lt := if some? xs k then some (lit xs k) else none

theorem sg_le (xs : List Int) (i : Nat) : sg xs i ≤ 1 := by unfold sg; split <;> omega
theorem sg_lt {xs : List Int} {i : Nat} (h : sg xs i = 1) : i < xs.length := by
  unfold sg at h
  split at h
  · next c => exact pk_lt (by omega)
  · omega
theorem sg_take (xs : List Int) (m i : Nat) (h : i < m) : sg (xs.take m) i = sg xs i := by simp only [sg, pk_take, if_pos h]
theorem sg_past (xs : List Int) (m i : Nat) (h : m ≤ i) : sg (xs.take m) i = 0 := by simp only [sg, pk_take, if_neg (show ¬ i < m by omega)]; simp

theorem en_eq (xs : List Int) (k : Nat) : (lit xs k).en = if hasE xs (p3 xs k) = true then p4 xs (p3 xs k) + run dg xs (p4 xs (p3 xs k)) else p3 xs k := rfl
theorem p3_en (xs : List Int) (k : Nat) : p3 xs k ≤ (lit xs k).en := by
  rw [en_eq]
  split
  · unfold p4; omega
  · omega
theorem p2_p3 (xs : List Int) (k : Nat) : p2 xs k ≤ p3 xs k := by unfold p3; split <;> omega
theorem p3_lt (xs : List Int) (k : Nat) : pk xs (p2 xs k) = 46 → p2 xs k < p3 xs k := by intro h; unfold p3; rw [if_pos h]; omega

theorem p1_le (xs : List Int) (k : Nat) (h : k ≤ xs.length) : p1 xs k ≤ xs.length := by
  unfold p1
  have := sg_le xs k
  rcases Nat.lt_or_ge (sg xs k) 1 with c | c
  · omega
  · have := sg_lt (xs := xs) (i := k) (by omega); omega
theorem p2_le (xs : List Int) (k : Nat) (h : k ≤ xs.length) : p2 xs k ≤ xs.length := by
  have h1 := p1_le xs k h
  have h2 := run_le dg xs (p1 xs k)
  unfold p2; omega
theorem p3_le (xs : List Int) (k : Nat) (h : k ≤ xs.length) : p3 xs k ≤ xs.length := by
  have h1 := p2_le xs k h
  unfold p3
  split
  · next c =>
    have h2 := run_le dg xs (p2 xs k + 1)
    have h3 : p2 xs k < xs.length := pk_lt (by omega)
    omega
  · exact h1
theorem p4_le (xs : List Int) (t : Nat) (h : t < xs.length) : p4 xs t ≤ xs.length := by
  unfold p4
  rcases Nat.lt_or_ge (sg xs (t + 1)) 1 with c | c
  · omega
  · have := sg_lt (xs := xs) (i := t + 1) (by have := sg_le xs (t + 1); omega); have := sg_le xs (t + 1); omega
theorem isE_lt {xs : List Int} {t : Nat} (h : isE (pk xs t) = true) : t < xs.length := by
  apply pk_lt
  intro c
  rw [c] at h
  simp [isE] at h
theorem en_le (xs : List Int) (k : Nat) (h : k ≤ xs.length) : (lit xs k).en ≤ xs.length := by
  rw [en_eq]
  split
  · next c =>
    unfold hasE at c
    rw [Bool.and_eq_true] at c
    have h1 := p4_le xs _ (isE_lt c.1)
    have h2 := run_le dg xs (p4 xs (p3 xs k))
    omega
  · exact p3_le xs k h

/-- What is no literal is none in any beginning. -/
theorem rd_none_take {xs : List Int} {k m : Nat} (h : ¬ some? xs k) (hk : k < m) : ¬ some? (xs.take m) k := by
  unfold some? at *
  have h1 : run dg xs (p1 xs k) = 0 := by omega
  have h2 : bn xs k = 0 := by omega
  have e1 : p1 (xs.take m) k = p1 xs k := by unfold p1; rw [sg_take _ _ _ hk]
  have e2 : run dg (xs.take m) (p1 xs k) = 0 := by rw [run_take dg0]; omega
  have e3 : p2 (xs.take m) k = p2 xs k := by unfold p2; rw [e1, e2, h1]
  rw [e1, e2]
  have e4 : bn (xs.take m) k = 0 := by
    unfold bn at *
    rw [e3, pk_take, run_take dg0]
    by_cases c : p2 xs k < m
    · rw [if_pos c]
      split
      · next c2 => rw [if_pos c2] at h2; omega
      · rfl
    · rw [if_neg c]; simp
  omega
theorem rd_none_past {xs : List Int} {k m : Nat} (hk : m ≤ k) : ¬ some? (xs.take m) k := by
  unfold some?
  have z : ∀ i, m ≤ i → pk (xs.take m) i = 0 := fun i hi => by rw [pk_take, if_neg (by omega)]
  have r : ∀ i, m ≤ i → run dg (xs.take m) i = 0 := fun i hi => by rw [run_take dg0]; omega
  have e1 : p1 (xs.take m) k = k := by unfold p1; rw [sg_past _ _ _ hk]; omega
  have e2 : p2 (xs.take m) k = k := by unfold p2; rw [e1, r k hk]; omega
  rw [e1, r k hk]
  unfold bn
  rw [e2, z k hk]
  simp

theorem take_take_drop {xs : List Int} {m p a : Nat} (h : p + a ≤ m) : ((xs.take m).drop p).take a = (xs.drop p).take a := by
  rw [List.drop_take, List.take_take, Nat.min_eq_left (by omega)]

/-- A literal is the same one in any beginning that holds it whole. -/
theorem lit_take {xs : List Int} {k m : Nat} (hs : some? xs k) (hm : (lit xs k).en ≤ m) : some? (xs.take m) k ∧ lit (xs.take m) k = lit xs k := by
  have q3 := p3_en xs k
  have q2 := p2_p3 xs k
  have q1 : p1 xs k ≤ p2 xs k := by unfold p2; omega
  have q0 : k < m := by
    rcases Nat.lt_or_ge k m with c | c
    · exact c
    · exfalso
      have e1 : p3 xs k = k := by unfold p1 at *; omega
      unfold some? at hs
      have : run dg xs (p1 xs k) = 0 := by unfold p2 p1 at *; omega
      rcases Classical.em (pk xs (p2 xs k) = 46) with c2 | c2
      · have := p3_lt xs k c2; unfold p1 at *; omega
      · apply hs; rw [this]; unfold bn; rw [if_neg c2]
  have e1 : p1 (xs.take m) k = p1 xs k := by unfold p1; rw [sg_take _ _ _ q0]
  have e2 : run dg (xs.take m) (p1 xs k) = run dg xs (p1 xs k) := by rw [run_take dg0]; unfold p2 at *; omega
  have e3 : p2 (xs.take m) k = p2 xs k := by unfold p2; rw [e1, e2]
  have e5 : (pk (xs.take m) (p2 xs k) = 46) ↔ (pk xs (p2 xs k) = 46) := by
    rw [pk_take]
    split
    · exact Iff.rfl
    · next c =>
      constructor
      · intro h; omega
      · intro h; have := p3_lt xs k h; omega
  have e6 : pk xs (p2 xs k) = 46 → run dg (xs.take m) (p2 xs k + 1) = run dg xs (p2 xs k + 1) := by
    intro h
    rw [run_take dg0]
    unfold p3 at q3
    rw [if_pos h] at q3
    omega
  have e7 : bn (xs.take m) k = bn xs k := by
    unfold bn
    rw [e3]
    by_cases c : pk xs (p2 xs k) = 46
    · rw [if_pos c, if_pos (e5.2 c), e6 c]
    · rw [if_neg c, if_neg (fun h => c (e5.1 h))]
  have e8 : p3 (xs.take m) k = p3 xs k := by
    unfold p3
    rw [e3]
    by_cases c : pk xs (p2 xs k) = 46
    · rw [if_pos c, if_pos (e5.2 c), e6 c]
    · rw [if_neg c, if_neg (fun h => c (e5.1 h))]
  have hb : p2 xs k + 1 + bn xs k ≤ m ∨ bn xs k = 0 := by
    unfold bn
    by_cases c : pk xs (p2 xs k) = 46
    · rw [if_pos c]; unfold p3 at q3; rw [if_pos c] at q3; omega
    · rw [if_neg c]; omega
  refine ⟨by unfold some? at *; rw [e1, e2, e7]; exact hs, ?_⟩
  have ea : ((xs.take m).drop (p1 xs k)).take (run dg xs (p1 xs k)) = (xs.drop (p1 xs k)).take (run dg xs (p1 xs k)) := take_take_drop (by unfold p2 at *; omega)
  have eb : ((xs.take m).drop (p2 xs k + 1)).take (bn xs k) = (xs.drop (p2 xs k + 1)).take (bn xs k) := by
    rcases hb with h | h
    · exact take_take_drop h
    · rw [h]; simp
  have ec : decide (pk (xs.take m) k = 45) = decide (pk xs k = 45) := by rw [pk_take, if_pos q0]
  by_cases c : hasE xs (p3 xs k) = true
  · have hen : p4 xs (p3 xs k) + run dg xs (p4 xs (p3 xs k)) ≤ m := by
      have : (lit xs k).en = p4 xs (p3 xs k) + run dg xs (p4 xs (p3 xs k)) := by rw [en_eq, if_pos c]
      omega
    have c' := c
    unfold hasE at c'
    rw [Bool.and_eq_true] at c'
    have h1 : p4 xs (p3 xs k) < m := by
      have := run_succ dg0 c'.2
      omega
    have h0 : p3 xs k + 1 ≤ p4 xs (p3 xs k) := by unfold p4; omega
    have f1 : p4 (xs.take m) (p3 xs k) = p4 xs (p3 xs k) := by unfold p4; rw [sg_take _ _ _ (by omega)]
    have f2 : run dg (xs.take m) (p4 xs (p3 xs k)) = run dg xs (p4 xs (p3 xs k)) := by rw [run_take dg0]; omega
    have f3 : hasE (xs.take m) (p3 xs k) = true := by
      unfold hasE
      rw [f1, pk_take, if_pos (by omega), pk_take, if_pos h1]
      exact c
    have f4 : ((xs.take m).drop (p4 xs (p3 xs k))).take (run dg xs (p4 xs (p3 xs k))) = (xs.drop (p4 xs (p3 xs k))).take (run dg xs (p4 xs (p3 xs k))) := take_take_drop hen
    have f5 : pk (xs.take m) (p3 xs k + 1) = pk xs (p3 xs k + 1) := by rw [pk_take, if_pos (by omega)]
    unfold lit
    rw [e1, e2, e3, e7, e8, if_pos f3, if_pos f3, if_pos c, if_pos c, f1, f2, f4, f5, ea, eb, ec]
  · have f3 : ¬ hasE (xs.take m) (p3 xs k) = true := by
      intro h
      apply c
      unfold hasE at *
      rw [Bool.and_eq_true] at *
      have h1 := isE_lt h.1
      rw [List.length_take] at h1
      have g1 := h.1
      rw [pk_take, if_pos (by omega)] at g1
      refine ⟨g1, ?_⟩
      have g2 := h.2
      by_cases d : p3 xs k + 1 < m
      · have f1 : p4 (xs.take m) (p3 xs k) = p4 xs (p3 xs k) := by unfold p4; rw [sg_take _ _ _ d]
        rw [f1, pk_take] at g2
        split at g2
        · exact g2
        · simp [dg] at g2
      · exfalso
        have f1 : p4 (xs.take m) (p3 xs k) = p3 xs k + 1 := by unfold p4; rw [sg_past _ _ _ (by omega)]
        rw [f1, pk_take, if_neg d] at g2
        simp [dg] at g2
    unfold lit
    rw [e1, e2, e3, e7, e8, if_neg f3, if_neg f3, if_neg c, if_neg c, ea, eb, ec]

/-- A literal is not empty, and ends with a digit or a point. -/
theorem lit_last {xs : List Int} {k : Nat} (hs : some? xs k) : k < (lit xs k).en ∧ bl (pk xs ((lit xs k).en - 1)) = false := by
  have key : ∀ i, k ≤ i → (dg (pk xs i) = true ∨ pk xs i = 46) → i + 1 = (lit xs k).en → k < (lit xs k).en ∧ bl (pk xs ((lit xs k).en - 1)) = false := by
    intro i h1 h2 h3
    refine ⟨by omega, ?_⟩
    rw [← h3, Nat.add_sub_cancel, bl_not]
    rcases h2 with h2 | h2
    · have := dg_iff.1 h2; omega
    · omega
  have k1 : k ≤ p1 xs k := by unfold p1; omega
  by_cases c : hasE xs (p3 xs k) = true
  · have he : (lit xs k).en = p4 xs (p3 xs k) + run dg xs (p4 xs (p3 xs k)) := by rw [en_eq, if_pos c]
    have c' := c
    unfold hasE at c'
    rw [Bool.and_eq_true] at c'
    have h1 := run_succ dg0 c'.2
    have h2 := p2_p3 xs k
    have h0 : p3 xs k + 1 ≤ p4 xs (p3 xs k) := by unfold p4; omega
    refine key (p4 xs (p3 xs k) + (run dg xs (p4 xs (p3 xs k)) - 1)) ?_ (.inl (run_all _ (by omega))) (by omega)
    unfold p2 at h2; omega
  · have he : (lit xs k).en = p3 xs k := by rw [en_eq, if_neg c]
    by_cases c2 : pk xs (p2 xs k) = 46
    · have h3 : p3 xs k = p2 xs k + 1 + run dg xs (p2 xs k + 1) := by unfold p3; rw [if_pos c2]
      by_cases c3 : run dg xs (p2 xs k + 1) = 0
      · refine key (p2 xs k) ?_ (.inr c2) (by omega)
        unfold p2; omega
      · refine key (p2 xs k + 1 + (run dg xs (p2 xs k + 1) - 1)) ?_ (.inl (run_all _ (by omega))) (by omega)
        unfold p2; omega
    · have h3 : p3 xs k = p2 xs k := by unfold p3; rw [if_neg c2]
      have h4 : run dg xs (p1 xs k) ≠ 0 := by
        intro h
        apply hs
        rw [h]; unfold bn; rw [if_neg c2]
      refine key (p1 xs k + (run dg xs (p1 xs k) - 1)) (by omega) (.inl (run_all _ (by omega))) ?_
      rw [he, h3]; unfold p2; omega

/-- A Dec. -/
structure D where
  neg : Bool
  ds : List Int
  e : Int
deriving DecidableEq

def z (x : Int) : Bool := decide (x = 48)
/-- Zeros at the head, at the end. -/
def lz (ds : List Int) : Nat := (ds.takeWhile z).length
def tz (ds : List Int) : Nat := lz ds.reverse
/-- The normal form of digits with an exponent. -/
def nrm (neg : Bool) (ds : List Int) (e : Int) : D :=
  if lz ds = ds.length then ⟨neg, [48], 0⟩ else ⟨neg, (ds.drop (lz ds)).take (ds.length - tz ds - lz ds), e + tz ds⟩
def Lt.d (l : Lt) : D := nrm l.neg (l.ah ++ l.bh) (l.sc - l.bh.length)
end Sc
end Go.Proofs.YtobiapniidaibaaGreatDoor

namespace Go.Proofs.YtobiapniidaibaaGreatDoor
namespace Sc

theorem z_iff {x : Int} : z x = true ↔ x = 48 := by simp [z]
theorem z_not {x : Int} : z x = false ↔ x ≠ 48 := by simp [z]
theorem z0 : z 0 = false := rfl
theorem lz_run (ds : List Int) : lz ds = run z ds 0 := by simp [lz, run]
theorem pk_rev (ds : List Int) (i : Nat) (h : i < ds.length) : pk ds.reverse i = pk ds (ds.length - 1 - i) := by
  simp only [pk, List.getD]
  rw [List.getElem?_reverse h]
theorem lz_is {ds : List Int} {j : Nat} (h1 : ∀ i, i < j → pk ds i = 48) (h2 : pk ds j ≠ 48) : lz ds = j := by
  rw [lz_run]
  apply run_is z0
  · intro i hi; rw [Nat.zero_add, z_iff]; exact h1 i hi
  · rw [Nat.zero_add, z_not]; exact h2
theorem tz_is {ds : List Int} {k : Nat} (hk : k ≤ ds.length) (h1 : ∀ i, k ≤ i → i < ds.length → pk ds i = 48) (h2 : 0 < k → pk ds (k - 1) ≠ 48) : tz ds = ds.length - k := by
  unfold tz
  apply lz_is
  · intro i hi; rw [pk_rev ds i (by omega)]; exact h1 _ (by omega) (by omega)
  · by_cases c : k = 0
    · subst c; rw [pk_ge (by simp)]; omega
    · rw [pk_rev ds _ (by omega), show ds.length - 1 - (ds.length - k) = k - 1 by omega]; exact h2 (by omega)
theorem lz_le (ds : List Int) : lz ds ≤ ds.length := by rw [lz_run]; have := run_le z ds 0; omega
theorem lz_at {ds : List Int} {i : Nat} (h : i < lz ds) : pk ds i = 48 := by
  rw [lz_run] at h
  have := run_all i h
  rw [Nat.zero_add, z_iff] at this; exact this
theorem lz_end (ds : List Int) : pk ds (lz ds) ≠ 48 := by
  rw [lz_run]
  have := run_end z0 (xs := ds) _ 0 rfl
  rw [Nat.zero_add, z_not] at this; exact this
theorem tz_le (ds : List Int) : tz ds ≤ ds.length := by unfold tz; have := lz_le ds.reverse; simpa using this
theorem tz_at {ds : List Int} {i : Nat} (h : ds.length - tz ds ≤ i) (hi : i < ds.length) : pk ds i = 48 := by
  have := lz_at (ds := ds.reverse) (i := ds.length - 1 - i) (by unfold tz at h; have := tz_le ds; unfold tz at this; omega)
  rw [pk_rev ds _ (by omega)] at this
  rw [show ds.length - 1 - (ds.length - 1 - i) = i by omega] at this; exact this
theorem tz_end {ds : List Int} (h : tz ds < ds.length) : pk ds (ds.length - tz ds - 1) ≠ 48 := by
  have := lz_end ds.reverse
  unfold tz at *
  rw [pk_rev ds _ h] at this
  rw [show ds.length - lz ds.reverse - 1 = ds.length - 1 - lz ds.reverse by omega]; exact this
/-- Where not all digits are zeros, the zeros at the head and at the end don't meet. -/
theorem lz_tz {ds : List Int} (h : lz ds ≠ ds.length) : lz ds + tz ds < ds.length := by
  have h1 := lz_le ds
  have h2 := lz_end ds
  have h3 := tz_le ds
  rcases Nat.lt_or_ge (lz ds + tz ds) ds.length with c | c
  · exact c
  · exact absurd (tz_at (ds := ds) (i := lz ds) (by omega) (by omega)) h2

theorem nrm_zero {neg : Bool} {ds : List Int} {e : Int} (h : lz ds = ds.length) : nrm neg ds e = ⟨neg, [48], 0⟩ := by unfold nrm; rw [if_pos h]
theorem nrm_pos {neg : Bool} {ds : List Int} {e : Int} (h : lz ds ≠ ds.length) : nrm neg ds e = ⟨neg, (ds.drop (lz ds)).take (ds.length - tz ds - lz ds), e + tz ds⟩ := by unfold nrm; rw [if_neg h]
theorem nrm_neg (neg : Bool) (ds : List Int) (e : Int) : (nrm neg ds e).neg = neg := by unfold nrm; split <;> rfl

/-- What two trims leave is the normal form. -/
theorem nrm_of_trims {neg : Bool} {ds : List Int} {e : Int} {j k : Nat} (hj : j < ds.length) (h1 : ∀ i, i < j → ds.getD i 0 = 48) (h2 : ds.getD j 0 ≠ 48)
    (hk : k ≤ (ds.drop j).length) (h3 : ∀ i, k ≤ i → i < (ds.drop j).length → (ds.drop j).getD i 0 = 48) (h4 : 0 < k → (ds.drop j).getD (k - 1) 0 ≠ 48) :
    nrm neg ds e = ⟨neg, (ds.drop j).take k, e + (ds.drop j).length - k⟩ ∧ 0 < k := by
  have e1 : lz ds = j := lz_is h1 h2
  have hd : ∀ i, (ds.drop j).getD i 0 = pk ds (j + i) := fun i => pk_drop ds j i
  rw [List.length_drop] at *
  have k0 : 0 < k := by
    rcases Nat.eq_zero_or_pos k with c | c
    · subst c
      have := h3 0 (Nat.le_refl _) (by omega)
      rw [hd] at this
      exact absurd this h2
    · exact c
  have e2 : tz ds = ds.length - (j + k) := by
    apply tz_is (by omega)
    · intro i hi1 hi2
      have := h3 (i - j) (by omega) (by omega)
      rw [hd, show j + (i - j) = i by omega] at this; exact this
    · intro _
      have := h4 k0
      rw [hd, show j + (k - 1) = j + k - 1 by omega] at this; exact this
  refine ⟨?_, k0⟩
  rw [nrm_pos (by omega), e1, e2, show ds.length - (ds.length - (j + k)) - j = k by omega]
  congr 1
  omega
theorem nrm_of_none {neg : Bool} {ds : List Int} {e : Int} (h : ∀ i, i < ds.length → ds.getD i 0 = 48) : nrm neg ds e = ⟨neg, [48], 0⟩ := by
  apply nrm_zero
  have h1 := lz_le ds
  have h2 := lz_end ds
  rcases Nat.lt_or_ge (lz ds) ds.length with c | c
  · exact absurd (h _ c) h2
  · omega

/-- What Number answers: the Dec and the place. -/
def num (xs : List Int) : D × Nat := if some? xs (run bl xs 0) then ((lit xs (run bl xs 0)).d, (lit xs (run bl xs 0)).en) else (⟨false, [], 0⟩, 0)
/-- What Whole answers. -/
def whl (xs : List Int) : D × Bool := if some? xs (run bl xs 0) ∧ (lit xs (run bl xs 0)).en + run bl xs (lit xs (run bl xs 0)).en = xs.length then ((lit xs (run bl xs 0)).d, true) else (⟨false, [], 0⟩, false)
theorem nrm_len (neg : Bool) (ds : List Int) (e : Int) : (nrm neg ds e).ds.length ≤ ds.length + 1 := by
  unfold nrm
  split
  · simp
  · simp only [List.length_take, List.length_drop]; omega
theorem nrm_e (neg : Bool) (ds : List Int) (e : Int) : (nrm neg ds e).e = 0 ∨ (e ≤ (nrm neg ds e).e ∧ (nrm neg ds e).e ≤ e + ds.length) := by
  unfold nrm
  split
  · exact .inl rfl
  · have := tz_le ds
    refine .inr ⟨?_, ?_⟩
    · show e ≤ e + tz ds; omega
    · show e + (tz ds : Int) ≤ e + ds.length; omega
theorem lit_len (xs : List Int) (k : Nat) : (lit xs k).ah.length + (lit xs k).bh.length ≤ xs.length := by
  show ((xs.drop _).take _).length + ((xs.drop _).take _).length ≤ _
  simp only [List.length_take, List.length_drop]
  have : p1 xs k + run dg xs (p1 xs k) = p2 xs k := rfl
  omega
theorem lit_sc (xs : List Int) (k : Nat) : -1000000000000000 ≤ (lit xs k).sc ∧ (lit xs k).sc ≤ 1000000000000000 := by
  have h : 0 ≤ cap ((xs.drop (p4 xs (p3 xs k))).take (run dg xs (p4 xs (p3 xs k)))) ∧ cap ((xs.drop (p4 xs (p3 xs k))).take (run dg xs (p4 xs (p3 xs k)))) ≤ 1000000000000000 := by
    apply cap_b
    intro x hx
    obtain ⟨i, hi, rfl⟩ := List.mem_iff_getElem.1 hx
    rw [List.length_take, List.length_drop] at hi
    have := run_all (p := dg) (xs := xs) (i := p4 xs (p3 xs k)) i (by omega)
    have e : pk xs (p4 xs (p3 xs k) + i) = ((xs.drop (p4 xs (p3 xs k))).take (run dg xs (p4 xs (p3 xs k))))[i] := by
      have hi2 : p4 xs (p3 xs k) + i < xs.length := by omega
      simp [pk, List.getD, hi2]
    rw [← e]; exact this
  unfold lit
  simp only
  split
  · split <;> omega
  · omega

/-- THE LONGEST: what Number takes is whole, and no longer beginning is, but for blanks. -/
theorem run_bl_take (xs : List Int) (m : Nat) : run bl (xs.take m) 0 = min (run bl xs 0) m := by rw [run_take bl0]; simp
theorem num_zero {xs : List Int} (h : (num xs).2 = 0) : num xs = (⟨false, [], 0⟩, 0) ∧ ∀ m, whl (xs.take m) = (⟨false, [], 0⟩, false) := by
  have hn : ¬ some? xs (run bl xs 0) := by
    intro c
    unfold num at h
    rw [if_pos c] at h
    have := (lit_last c).1
    simp only at h
    omega
  refine ⟨by unfold num; rw [if_neg hn], fun m => ?_⟩
  unfold whl
  rw [if_neg]
  rintro ⟨c, -⟩
  rw [run_bl_take] at c
  rcases Nat.lt_or_ge (run bl xs 0) m with d | d
  · rw [show min (run bl xs 0) m = run bl xs 0 by omega] at c
    exact rd_none_take hn d c
  · rw [show min (run bl xs 0) m = m by omega] at c
    exact rd_none_past (Nat.le_refl _) c
theorem num_pos {xs : List Int} (h : 0 < (num xs).2) : some? xs (run bl xs 0) ∧ num xs = ((lit xs (run bl xs 0)).d, (lit xs (run bl xs 0)).en) := by
  by_cases c : some? xs (run bl xs 0)
  · exact ⟨c, by unfold num; rw [if_pos c]⟩
  · unfold num at h; rw [if_neg c] at h; simp at h
theorem num_le (xs : List Int) : (num xs).2 ≤ xs.length := by
  unfold num
  split
  · exact en_le xs _ (by have := run_le bl xs 0; omega)
  · exact Nat.zero_le _
theorem whl_take {xs : List Int} {m : Nat} (h : 0 < (num xs).2) (hm : (num xs).2 ≤ m) (hl : m ≤ xs.length) :
    (whl (xs.take m)).2 = decide ((num xs).2 + run bl (xs.take m) (num xs).2 = m) ∧ ((whl (xs.take m)).2 = true → (whl (xs.take m)).1 = (num xs).1) := by
  obtain ⟨hs, e⟩ := num_pos h
  rw [e] at hm ⊢
  simp only at hm ⊢
  obtain ⟨l1, l2⟩ := lit_take hs hm
  have hk : min (run bl xs 0) m = run bl xs 0 := by have := (lit_last hs).1; omega
  have hle : (xs.take m).length = m := by simp; omega
  unfold whl
  rw [run_bl_take, hk, l2, hle]
  by_cases c : (lit xs (run bl xs 0)).en + run bl (xs.take m) (lit xs (run bl xs 0)).en = m
  · rw [if_pos ⟨l1, c⟩]; exact ⟨by simp [c], fun _ => rfl⟩
  · rw [if_neg (fun d => c d.2)]; exact ⟨by simp [c], fun d => by simp at d⟩
theorem whl_at {xs : List Int} (h : 0 < (num xs).2) : whl (xs.take (num xs).2) = ((num xs).1, true) := by
  obtain ⟨h1, h2⟩ := whl_take h (Nat.le_refl _) (num_le xs)
  have h3 : (whl (xs.take (num xs).2)).2 = true := by
    rw [h1, run_take bl0]; simp
  exact Prod.ext (h2 h3) h3
theorem num_last {xs : List Int} (h : 0 < (num xs).2) : bl (pk xs ((num xs).2 - 1)) = false := by
  obtain ⟨hs, e⟩ := num_pos h
  rw [e]
  exact (lit_last hs).2
theorem whl_more {xs : List Int} {m : Nat} (h : 0 < (num xs).2) (hm : (num xs).2 < m) (hl : m ≤ xs.length) (hb : bl (pk xs (m - 1)) = false) : (whl (xs.take m)).2 = false := by
  rw [(whl_take h (by omega) hl).1, decide_eq_false_iff_not]
  intro c
  have := run_all (p := bl) (xs := xs.take m) (i := (num xs).2) (m - 1 - (num xs).2) (by omega)
  rw [show (num xs).2 + (m - 1 - (num xs).2) = m - 1 by omega, pk_take, if_pos (by omega), hb] at this
  exact absurd this (by simp)
end Sc
end Go.Proofs.YtobiapniidaibaaGreatDoor

namespace Go.Proofs.YtobiapniidaibaaGreatDoor
namespace Sc

def big : Int := 1152921504606846976
/-- A Dec, by the chapter's words. -/
def IsDec (ds : List Int) (e : Int) : Prop := ds ≠ [] ∧ -1152921504606846976 ≤ e ∧ e ≤ 1152921504606846976 ∧ (∀ x ∈ ds, dg x = true) ∧ (lz ds ≠ ds.length → e + tz ds ≤ 1152921504606846976)
instance (ds : List Int) (e : Int) : Decidable (IsDec ds e) := inferInstanceAs (Decidable (_ ∧ _ ∧ _ ∧ _ ∧ _))

def cmpI (x y : Int) : Int := if x < y then -1 else if y < x then 1 else 0
theorem cmpI_c (x y : Int) : (x < y ∧ cmpI x y = -1) ∨ (x = y ∧ cmpI x y = 0) ∨ (y < x ∧ cmpI x y = 1) := by
  unfold cmpI
  rcases Int.lt_trichotomy x y with h | h | h
  · exact .inl ⟨h, by rw [if_pos h]⟩
  · exact .inr (.inl ⟨h, by rw [if_neg (by omega), if_neg (by omega)]⟩)
  · exact .inr (.inr ⟨h, by rw [if_neg (by omega), if_pos h]⟩)
def lex : List Int → List Int → Int
  | [], [] => 0
  | [], _ :: _ => -1
  | _ :: _, [] => 1
  | a :: as_, b :: bs => if a < b then -1 else if b < a then 1 else lex as_ bs
theorem lex_b (a b : List Int) : lex a b = -1 ∨ lex a b = 0 ∨ lex a b = 1 := by
  induction a generalizing b with
  | nil => cases b <;> simp [lex]
  | cons x a ih =>
    cases b with
    | nil => simp [lex]
    | cons y b => simp only [lex]; split; · simp
                  · split; · simp
                    · exact ih b
theorem lex_anti (a b : List Int) : lex b a = - lex a b := by
  induction a generalizing b with
  | nil => cases b <;> simp [lex]
  | cons x a ih =>
    cases b with
    | nil => simp [lex]
    | cons y b =>
      simp only [lex]
      rcases Int.lt_trichotomy x y with h | h | h
      · rw [if_neg (by omega), if_pos h, if_pos h]; rfl
      · rw [if_neg (by omega), if_neg (by omega), if_neg (by omega), if_neg (by omega)]; exact ih b
      · rw [if_pos h, if_neg (by omega), if_pos h]
theorem lex_zero (a b : List Int) : lex a b = 0 ↔ a = b := by
  induction a generalizing b with
  | nil => cases b <;> simp [lex]
  | cons x a ih =>
    cases b with
    | nil => simp [lex]
    | cons y b =>
      simp only [lex]
      rcases Int.lt_trichotomy x y with h | h | h
      · rw [if_pos h]; simp; omega
      · subst h; simp [ih]
      · rw [if_neg (by omega), if_pos h]; simp; omega
theorem lex_trans (a b c : List Int) : lex a b ≤ 0 → lex b c ≤ 0 → lex a c ≤ 0 ∧ (lex a c = 0 → lex a b = 0 ∧ lex b c = 0) := by
  induction a generalizing b c with
  | nil =>
    cases b with
    | nil => cases c <;> simp [lex]
    | cons y b => cases c <;> simp [lex]
  | cons x a ih =>
    cases b with
    | nil => simp [lex]
    | cons y b =>
      cases c with
      | nil => simp [lex]
      | cons z c =>
        simp only [lex]
        rcases Int.lt_trichotomy x y with h | h | h
        · rcases Int.lt_trichotomy y z with k | k | k
          · rw [if_pos h, if_pos k, if_pos (show x < z by omega)]; simp
          · rw [if_pos h, if_neg (show ¬ y < z by omega), if_neg (show ¬ z < y by omega), if_pos (show x < z by omega)]; simp
          · rw [if_neg (show ¬ y < z by omega), if_pos k]; simp
        · subst h
          rw [if_neg (show ¬ x < x by omega), if_neg (show ¬ x < x by omega)]
          rcases Int.lt_trichotomy x z with k | k | k
          · simp [k]
          · subst k; simp only [Int.lt_irrefl, if_false]; exact ih b c
          · simp [show ¬ x < z by omega, k]
        · rw [if_neg (show ¬ x < y by omega), if_pos h]; simp

/-- Sizes alone. -/
def pl (d : D) : Int := d.e + d.ds.length
def mc (a b : D) : Int := if pl a ≠ pl b then cmpI (pl a) (pl b) else lex a.ds b.ds
def sgn (d : D) : Int := if d.ds = [48] then 0 else if d.neg = true then -1 else 1
/-- What Cmp answers of two normal Decs. -/
def cmpD (a b : D) : Int := if sgn a ≠ sgn b then cmpI (sgn a) (sgn b) else if a.neg = true then mc b a else mc a b

theorem mc_b (a b : D) : mc a b = -1 ∨ mc a b = 0 ∨ mc a b = 1 := by
  unfold mc
  split
  · rcases cmpI_c (pl a) (pl b) with h | h | h <;> omega
  · exact lex_b _ _
theorem mc_anti (a b : D) : mc b a = - mc a b := by
  unfold mc
  by_cases h : pl a = pl b
  · rw [if_neg (by omega), if_neg (by omega)]; exact lex_anti _ _
  · rw [if_pos (by omega), if_pos h]
    rcases cmpI_c (pl a) (pl b) with k | k | k <;> rcases cmpI_c (pl b) (pl a) with l | l | l <;> omega
theorem mc_zero (a b : D) : mc a b = 0 ↔ a.ds = b.ds ∧ a.e = b.e := by
  unfold mc
  by_cases h : pl a = pl b
  · rw [if_neg (by omega), lex_zero]
    unfold pl at h
    constructor
    · intro k; rw [k] at h; exact ⟨k, by omega⟩
    · exact fun k => k.1
  · rw [if_pos h]
    constructor
    · intro k; rcases cmpI_c (pl a) (pl b) with l | l | l <;> omega
    · intro k; exfalso; apply h; unfold pl; rw [k.1, k.2]
theorem mc_trans (a b c : D) : mc a b ≤ 0 → mc b c ≤ 0 → mc a c ≤ 0 ∧ (mc a c = 0 → mc a b = 0 ∧ mc b c = 0) := by
  unfold mc
  have h1 := cmpI_c (pl a) (pl b)
  have h2 := cmpI_c (pl b) (pl c)
  have h3 := cmpI_c (pl a) (pl c)
  have l1 := lex_trans a.ds b.ds c.ds
  split <;> split <;> split <;> omega

/-- A normal Dec. -/
def Nrm (d : D) : Prop := (d.ds = [48] ∧ d.e = 0) ∨ d.ds ≠ [48]
theorem sgn_c (d : D) : (d.ds = [48] ∧ sgn d = 0) ∨ (d.ds ≠ [48] ∧ d.neg = true ∧ sgn d = -1) ∨ (d.ds ≠ [48] ∧ d.neg = false ∧ sgn d = 1) := by
  unfold sgn
  by_cases h : d.ds = [48]
  · exact .inl ⟨h, by rw [if_pos h]⟩
  · cases k : d.neg with
    | true => exact .inr (.inl ⟨h, rfl, by rw [if_neg h]; rfl⟩)
    | false => exact .inr (.inr ⟨h, rfl, by rw [if_neg h]; rfl⟩)
theorem mc_both {a b : D} (ha : Nrm a) (hb : Nrm b) (h1 : a.ds = [48]) (h2 : b.ds = [48]) : mc a b = 0 := by
  rw [mc_zero]
  rcases ha with ha | ha
  · rcases hb with hb | hb
    · exact ⟨by rw [h1, h2], by rw [ha.2, hb.2]⟩
    · exact absurd h2 hb
  · exact absurd h1 ha
/-- Cmp by cases. -/
theorem cmpD_c {a b : D} (ha : Nrm a) (hb : Nrm b) :
    (sgn a < sgn b ∧ cmpD a b = -1) ∨ (sgn b < sgn a ∧ cmpD a b = 1) ∨ (sgn a = 0 ∧ sgn b = 0 ∧ cmpD a b = 0) ∨ (sgn a = -1 ∧ sgn b = -1 ∧ cmpD a b = - mc a b) ∨ (sgn a = 1 ∧ sgn b = 1 ∧ cmpD a b = mc a b) := by
  have e := mc_anti a b
  have z := mc_both ha hb
  unfold cmpD
  rcases sgn_c a with ⟨a1, a2⟩ | ⟨a1, a3, a2⟩ | ⟨a1, a3, a2⟩ <;> rcases sgn_c b with ⟨b1, b2⟩ | ⟨b1, b3, b2⟩ | ⟨b1, b3, b2⟩
  all_goals rw [a2, b2]
  · have := z a1 b1
    rw [if_neg (by omega)]
    split <;> omega
  · rw [if_pos (by omega)]; exact .inr (.inl ⟨by omega, rfl⟩)
  · rw [if_pos (by omega)]; exact .inl ⟨by omega, rfl⟩
  · rw [if_pos (by omega)]; exact .inl ⟨by omega, rfl⟩
  · rw [if_neg (by omega), if_pos a3]; omega
  · rw [if_pos (by omega)]; exact .inl ⟨by omega, rfl⟩
  · rw [if_pos (by omega)]; exact .inr (.inl ⟨by omega, rfl⟩)
  · rw [if_pos (by omega)]; exact .inr (.inl ⟨by omega, rfl⟩)
  · rw [if_neg (by omega), if_neg (by rw [a3]; simp)]; omega

theorem cmpD_b {a b : D} (ha : Nrm a) (hb : Nrm b) : -1 ≤ cmpD a b ∧ cmpD a b ≤ 1 := by
  have h := cmpD_c ha hb
  have k := mc_b a b
  omega
theorem cmpD_anti {a b : D} (ha : Nrm a) (hb : Nrm b) : cmpD b a = - cmpD a b := by
  have h := cmpD_c ha hb
  have k := cmpD_c hb ha
  have e := mc_anti a b
  omega
theorem cmpD_trans {a b c : D} (ha : Nrm a) (hb : Nrm b) (hc : Nrm c) : cmpD a b ≤ 0 → cmpD b c ≤ 0 → cmpD a c ≤ 0 ∧ (cmpD a c = 0 → cmpD a b = 0 ∧ cmpD b c = 0) := by
  have h1 := cmpD_c ha hb
  have h2 := cmpD_c hb hc
  have h3 := cmpD_c ha hc
  have t1 := mc_trans a b c
  have t2 := mc_trans c b a
  have e1 := mc_anti a b
  have e2 := mc_anti b c
  have e3 := mc_anti a c
  have s1 := sgn_c a
  have s2 := sgn_c b
  have s3 := sgn_c c
  omega
theorem cmpD_zero {a b : D} (ha : Nrm a) (hb : Nrm b) : cmpD a b = 0 ↔ (a = b ∨ (a.ds = [48] ∧ b.ds = [48])) := by
  have h1 := cmpD_c ha hb
  have z := mc_zero a b
  constructor
  · intro h
    rcases sgn_c a with ⟨a1, a2⟩ | ⟨a1, a3, a2⟩ | ⟨a1, a3, a2⟩ <;> rcases sgn_c b with ⟨b1, b2⟩ | ⟨b1, b3, b2⟩ | ⟨b1, b3, b2⟩ <;> first | exact .inr ⟨a1, b1⟩ | (exfalso; omega) | skip
    · obtain ⟨z1, z2⟩ := z.1 (by omega)
      left
      cases a; cases b; simp_all
    · obtain ⟨z1, z2⟩ := z.1 (by omega)
      left
      cases a; cases b; simp_all
  · rintro (rfl | ⟨a1, b1⟩)
    · have := z.2 ⟨rfl, rfl⟩
      omega
    · have s1 : sgn a = 0 := by unfold sgn; rw [if_pos a1]
      have s2 : sgn b = 0 := by unfold sgn; rw [if_pos b1]
      omega
/-- The same sizes, the same signs: one answer. -/
theorem cmpD_alike {a b a' b' : D} (ha : Nrm a) (hb : Nrm b) (ha' : Nrm a') (hb' : Nrm b') (h1 : sgn a' = sgn a) (h2 : sgn b' = sgn b) (h : sgn a ≠ 0 → sgn b ≠ 0 → mc a' b' = mc a b) : cmpD a' b' = cmpD a b := by
  have k := cmpD_c ha hb
  have l := cmpD_c ha' hb'
  by_cases c1 : sgn a = 0
  · omega
  · by_cases c2 : sgn b = 0
    · omega
    · have := h c1 c2; omega
theorem cmpD_turn {a b a' b' : D} (ha : Nrm a) (hb : Nrm b) (ha' : Nrm a') (hb' : Nrm b') (h1 : sgn a' = - sgn a) (h2 : sgn b' = - sgn b) (h : sgn a ≠ 0 → sgn b ≠ 0 → mc a' b' = mc a b) : cmpD a' b' = - cmpD a b := by
  have k := cmpD_c ha hb
  have l := cmpD_c ha' hb'
  by_cases c1 : sgn a = 0
  · omega
  · by_cases c2 : sgn b = 0
    · omega
    · have := h c1 c2; omega

theorem nrm_is (neg : Bool) (ds : List Int) (e : Int) : Nrm (nrm neg ds e) := by
  by_cases h : lz ds = ds.length
  · rw [nrm_zero h]; exact .inl ⟨rfl, rfl⟩
  · rw [nrm_pos h]
    right
    intro c
    have h1 := lz_end ds
    have h2 := lz_tz h
    have : pk ((ds.drop (lz ds)).take (ds.length - tz ds - lz ds)) 0 = pk ds (lz ds) := by
      rw [pk_take, if_pos (by omega), pk_drop]; rfl
    simp only at c
    rw [c] at this
    exact h1 this.symm
theorem nrm_ds_one {neg : Bool} {ds : List Int} {e : Int} : (nrm neg ds e).ds = [48] ↔ lz ds = ds.length := by
  constructor
  · intro h
    by_cases c : lz ds = ds.length
    · exact c
    · exfalso
      have := nrm_is neg ds e
      rw [nrm_pos c] at this h
      rcases this with k | k
      · have h1 := lz_end ds
        have h2 := lz_tz c
        have e2 : pk ((ds.drop (lz ds)).take (ds.length - tz ds - lz ds)) 0 = pk ds (lz ds) := by
          rw [pk_take, if_pos (by omega), pk_drop]; rfl
        simp only at h
        rw [h] at e2
        exact h1 e2.symm
      · exact k h
  · intro h; rw [nrm_zero h]
theorem sgn_nrm (neg : Bool) (ds : List Int) (e : Int) : sgn (nrm neg ds e) = if lz ds = ds.length then 0 else if neg = true then -1 else 1 := by
  unfold sgn
  rw [nrm_neg]
  by_cases c : lz ds = ds.length
  · rw [if_pos c, if_pos (nrm_ds_one.2 c)]
  · rw [if_neg c, if_neg (fun h => c (nrm_ds_one.1 h))]
theorem mc_moved {n1 n2 m1 m2 : Bool} {d1 d2 : List Int} {e1 e2 k : Int} (h1 : lz d1 ≠ d1.length) (h2 : lz d2 ≠ d2.length) : mc (nrm m1 d1 (e1 + k)) (nrm m2 d2 (e2 + k)) = mc (nrm n1 d1 e1) (nrm n2 d2 e2) := by
  rw [nrm_pos h1, nrm_pos h2, nrm_pos h1, nrm_pos h2]
  unfold mc pl cmpI
  simp only
  generalize List.length _ = x
  generalize List.length _ = y
  by_cases c : e1 + tz d1 + x = e2 + tz d2 + y
  · rw [if_neg (by omega), if_neg (by omega)]
  · rw [if_pos (by omega), if_pos c]
    by_cases g : e1 + tz d1 + x < e2 + tz d2 + y
    · rw [if_pos (by omega), if_pos g]
    · rw [if_neg (by omega), if_neg g, if_pos (by omega), if_pos (by omega)]
theorem nrm_tail (neg : Bool) (ds : List Int) (e : Int) : nrm neg ([48, 48] ++ ds ++ [48, 48, 48]) (e - 3) = nrm neg ds e := by
  by_cases c : lz ds = ds.length
  · rw [nrm_zero c]
    apply nrm_of_none
    intro i hi
    show pk _ i = 48
    rw [pk_append]
    split
    · rw [pk_append]
      split
      · next h1 h2 => simp at h2; rcases (show i = 0 ∨ i = 1 by omega) with rfl | rfl <;> rfl
      · next h1 h2 => simp at h1 h2; exact lz_at (by simp; omega)
    · next h1 =>
      simp at h1 hi ⊢
      rcases (show i - (ds.length + 1 + 1) = 0 ∨ i - (ds.length + 1 + 1) = 1 ∨ i - (ds.length + 1 + 1) = 2 by omega) with h | h | h <;> rw [h] <;> rfl
  · have h1 := lz_tz c
    have h2 := lz_le ds
    have e1 : lz ([48, 48] ++ ds ++ [48, 48, 48]) = lz ds + 2 := by
      apply lz_is
      · intro i hi
        rw [pk_append, if_pos (by simp; omega), pk_append]
        split
        · next h => simp at h; rcases (show i = 0 ∨ i = 1 by omega) with rfl | rfl <;> rfl
        · next h => simp at h; exact lz_at (by simp; omega)
      · rw [pk_append, if_pos (by simp; omega), pk_append, if_neg (by simp)]
        simp only [List.length_cons, List.length_nil, Nat.add_sub_cancel]
        exact lz_end ds
    have e2 : tz ([48, 48] ++ ds ++ [48, 48, 48]) = tz ds + 3 := by
      have h3 := tz_le ds
      have := tz_is (ds := [48, 48] ++ ds ++ [48, 48, 48]) (k := ds.length - tz ds + 2) (by simp; omega) ?_ ?_
      · rw [this]; simp; omega
      · intro i hi1 hi2
        rw [pk_append]
        split
        · next h =>
          simp at h
          rw [pk_append, if_neg (by simp; omega)]
          exact tz_at (by simp; omega) (by simp; omega)
        · next h =>
          simp at h hi2 ⊢
          rcases (show i - (ds.length + 1 + 1) = 0 ∨ i - (ds.length + 1 + 1) = 1 ∨ i - (ds.length + 1 + 1) = 2 by omega) with h | h | h <;> rw [h] <;> rfl
      · intro _
        rw [pk_append, if_pos (by simp; omega), pk_append, if_neg (by simp; omega)]
        have := tz_end (ds := ds) (by omega)
        simp only [List.length_cons, List.length_nil]
        rw [show ds.length - tz ds + 2 - 1 - (0 + 1 + 1) = ds.length - tz ds - 1 by omega]; exact this
    rw [nrm_pos (by rw [e1]; simp; omega), nrm_pos c, e1, e2]
    have el : ([48, 48] ++ ds ++ [48, 48, 48]).length - (tz ds + 3) - (lz ds + 2) = ds.length - tz ds - lz ds := by simp; omega
    rw [el]
    have ed : (List.drop (lz ds + 2) ([48, 48] ++ ds ++ [48, 48, 48])).take (ds.length - tz ds - lz ds) = (ds.drop (lz ds)).take (ds.length - tz ds - lz ds) := by
      rw [List.append_assoc, List.drop_append, List.drop_of_length_le (by simp)]
      simp only [List.length_cons, List.length_nil, List.nil_append]
      rw [show lz ds + 2 - (0 + 1 + 1) = lz ds by omega, List.drop_append_of_le_length h2, List.take_append_of_le_length (by simp; omega)]
    rw [ed]
    congr 1
    push_cast
    omega
end Sc
end Go.Proofs.YtobiapniidaibaaGreatDoor

namespace Go.Proofs.YtobiapniidaibaaGreatDoor
namespace Sc

/-- A number's digits, as bytes. -/
def dl (u : Nat) : List Int := (Lib.decDigits u).map fun b => (b.toNat : Int)
theorem dl_small {u : Nat} (h : u < 10) : dl u = [48 + (u : Int)] := by
  unfold dl
  rw [Lib.decDigits_one h]
  simp only [List.map_cons, List.map_nil]
  rw [UInt8.toNat_ofNat_of_lt' (by show 48 + u < 256; omega)]
  simp
theorem dl_big {u : Nat} (h : ¬ u < 10) : dl u = dl (u / 10) ++ [48 + ((u % 10 : Nat) : Int)] := by
  unfold dl
  rw [Lib.decDigits, dif_neg h, List.map_append]
  simp only [List.map_cons, List.map_nil]
  rw [UInt8.toNat_ofNat_of_lt' (by show 48 + u % 10 < 256; omega)]
  simp
theorem dl_is (u : Nat) : (∀ x ∈ dl u, dg x = true) ∧ dl u ≠ [] ∧ cap (dl u) = min (u : Int) 1000000000000000 := by
  induction u using Nat.strongRecOn with
  | _ u ih =>
    by_cases h : u < 10
    · rw [dl_small h]
      refine ⟨fun x hx => ?_, by simp, ?_⟩
      · rw [List.mem_singleton] at hx; subst hx; rw [dg_iff]; omega
      · have := cap_snoc [] (48 + (u : Int))
        rw [List.nil_append, cap_nil] at this
        rw [this]; omega
    · obtain ⟨h1, h2, h3⟩ := ih (u / 10) (by omega)
      rw [dl_big h]
      refine ⟨fun x hx => ?_, by simp, ?_⟩
      · rw [List.mem_append, List.mem_singleton] at hx
        rcases hx with hx | hx
        · exact h1 x hx
        · subst hx; rw [dg_iff]; omega
      · rw [cap_snoc, h3]; omega

theorem run_app {p : Int → Bool} (hp : p 0 = false) {as' bs cs : List Int} (h1 : ∀ x ∈ bs, p x = true) (h2 : p (pk cs 0) = false) : run p (as' ++ bs ++ cs) as'.length = bs.length := by
  apply run_is hp
  · intro j hj
    rw [pk_append, if_pos (by simp; omega), pk_append, if_neg (by omega), show as'.length + j - as'.length = j by omega]
    apply h1
    simp [pk, List.getD, hj]
  · rw [pk_append, if_neg (by simp), show as'.length + bs.length - (as' ++ bs).length = 0 by simp]
    exact h2
theorem take_app {as' bs cs : List Int} : ((as' ++ bs ++ cs).drop as'.length).take bs.length = bs := by
  rw [List.append_assoc, List.drop_left, List.take_left]

/-- Digits that are there, all digits. -/
def Dig (ds : List Int) : Prop := ds ≠ [] ∧ ∀ x ∈ ds, dg x = true
theorem Dig.pk0 {ds : List Int} (h : Dig ds) : dg (pk ds 0) = true := by
  obtain ⟨h1, h2⟩ := h
  cases ds with
  | nil => exact absurd rfl h1
  | cons x l => exact h2 x (by simp)

end Sc
end Go.Proofs.YtobiapniidaibaaGreatDoor

namespace Go.Proofs.YtobiapniidaibaaGreatDoor

theorem lnml_of {xs : List Int} {e : Int} (h : xs ≠ [] ∧ -1152921504606846976 ≤ e ∧ e ≤ 1152921504606846976 ∧ (∀ i, i < xs.length → 48 ≤ xs.getD i 0 ∧ xs.getD i 0 ≤ 57) ∧ ((xs = [48] ∧ e = 0) ∨ (xs ≠ [48] ∧ xs.getD 0 0 ≠ 48 ∧ xs.getD (xs.length - 1) 0 ≠ 48))) : Sc.IsDec xs e ∧ Sc.nrm false xs e = ⟨false, xs, e⟩ := by
  obtain ⟨h1, h2, h3, h4, h5⟩ := h
  have dg : ∀ x ∈ xs, Sc.dg x = true := fun x hx => by
    obtain ⟨i, hi, rfl⟩ := List.getElem_of_mem hx
    have := h4 i hi
    rw [show xs.getD i 0 = xs[i] by simp [List.getD, hi]] at this
    exact Sc.dg_iff.2 this
  rcases h5 with ⟨rfl, rfl⟩ | ⟨_, e1, e2⟩
  · decide +kernel
  · have hp : 0 < xs.length := by
      rcases Nat.eq_zero_or_pos xs.length with c | c
      · exact absurd (List.length_eq_zero_iff.1 c) h1
      · exact c
    have lz0 : Sc.lz xs = 0 := Sc.lz_is (fun i hi => by omega) e1
    have tz0 : Sc.tz xs = 0 := by
      have := Sc.tz_is (ds := xs) (k := xs.length) (Nat.le_refl _) (fun i hi hj => by omega) (fun _ => e2)
      omega
    refine ⟨⟨h1, h2, h3, dg, fun _ => by rw [tz0]; omega⟩, ?_⟩
    rw [Sc.nrm_pos (by omega), lz0, tz0]
    simp

theorem lnml_nrm {xs : List Int} {e : Int} (neg : Bool) (h : Sc.IsDec xs e) : Sc.IsDec (Sc.nrm neg xs e).ds (Sc.nrm neg xs e).e ∧ Sc.nrm false (Sc.nrm neg xs e).ds (Sc.nrm neg xs e).e = ⟨false, (Sc.nrm neg xs e).ds, (Sc.nrm neg xs e).e⟩ := by
  apply lnml_of
  obtain ⟨h1, h2, h3, h4, h5⟩ := h
  by_cases hz : Sc.lz xs = xs.length
  · rw [Sc.nrm_zero hz]
    refine ⟨by simp, by simp, by simp, ?_, .inl ⟨rfl, rfl⟩⟩
    intro i hi
    simp at hi
    subst hi
    simp
  · rw [Sc.nrm_pos hz]
    have lt := Sc.lz_tz hz
    have e5 := h5 hz
    simp only
    have len : ((xs.drop (Sc.lz xs)).take (xs.length - Sc.tz xs - Sc.lz xs)).length = xs.length - Sc.tz xs - Sc.lz xs := by rw [List.length_take, List.length_drop]; omega
    have at_ : ∀ i, i < xs.length - Sc.tz xs - Sc.lz xs → ((xs.drop (Sc.lz xs)).take (xs.length - Sc.tz xs - Sc.lz xs)).getD i 0 = Sc.pk xs (Sc.lz xs + i) := by
      intro i hi
      have := Sc.pk_take (xs.drop (Sc.lz xs)) (xs.length - Sc.tz xs - Sc.lz xs) i
      rw [if_pos hi, Sc.pk_drop] at this
      exact this
    have hd : ((xs.drop (Sc.lz xs)).take (xs.length - Sc.tz xs - Sc.lz xs)).getD 0 0 ≠ 48 := by
      rw [at_ 0 (by omega), Nat.add_zero]; exact Sc.lz_end xs
    refine ⟨?_, by omega, by omega, ?_, .inr ⟨?_, hd, ?_⟩⟩
    · intro c; rw [c] at len; simp at len; omega
    · intro i hi
      rw [len] at hi
      rw [at_ i hi]
      have hi2 : Sc.lz xs + i < xs.length := by omega
      have := h4 (xs[Sc.lz xs + i]) (List.getElem_mem hi2)
      have e : Sc.pk xs (Sc.lz xs + i) = xs[Sc.lz xs + i] := by simp [Sc.pk, List.getD, hi2]
      rw [e]
      exact Sc.dg_iff.1 this
    · intro c; rw [c] at hd; exact hd rfl
    · rw [len, at_ _ (by omega), show Sc.lz xs + (xs.length - Sc.tz xs - Sc.lz xs - 1) = xs.length - Sc.tz xs - 1 by omega]
      exact Sc.tz_end (by omega)

end Go.Proofs.YtobiapniidaibaaGreatDoor
