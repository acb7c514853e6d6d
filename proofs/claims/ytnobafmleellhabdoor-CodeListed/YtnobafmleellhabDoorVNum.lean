/-
  LITERALS IN A ROW OF BYTES: runs, signs, what a literal is; a Dec and its normal form.
-/
namespace Go.Proofs.YtnobafmleellhabDoor
namespace Sc

def pk (xs : List Int) (i : Nat) : Int := xs.getD i 0
def dg (x : Int) : Bool := decide (48 ≤ x) && decide (x ≤ 57)
def bl (x : Int) : Bool := decide (x = 32) || (decide (9 ≤ x) && decide (x ≤ 13))
/-- How many bytes from place i on have p, one behind the other. -/
def run (p : Int → Bool) (xs : List Int) (i : Nat) : Nat := ((xs.drop i).takeWhile p).length
def sg (xs : List Int) (i : Nat) : Nat := if pk xs i = 43 ∨ pk xs i = 45 then 1 else 0

theorem dg_iff {x : Int} : dg x = true ↔ 48 ≤ x ∧ x ≤ 57 := by simp [dg]
theorem dg_not {x : Int} : dg x = false ↔ ¬ (48 ≤ x ∧ x ≤ 57) := by rw [← dg_iff]; simp
theorem bl_iff {x : Int} : bl x = true ↔ x = 32 ∨ (9 ≤ x ∧ x ≤ 13) := by simp [bl]
theorem bl_not {x : Int} : bl x = false ↔ ¬ (x = 32 ∨ (9 ≤ x ∧ x ≤ 13)) := by rw [← bl_iff]; simp

theorem pk_ge {xs : List Int} {i : Nat} (h : xs.length ≤ i) : pk xs i = 0 := by simp [pk, List.getD, List.getElem?_eq_none h]
theorem pk_lt {xs : List Int} {i : Nat} (h : pk xs i ≠ 0) : i < xs.length := by
  rcases Nat.lt_or_ge i xs.length with c | c
  · exact c
  · exact absurd (pk_ge c) h
theorem pk_take (xs : List Int) (m i : Nat) : pk (xs.take m) i = if i < m then pk xs i else 0 := by
  unfold pk
  by_cases h : i < m
  · simp [List.getD, h]
  · simp [List.getD, List.getElem?_take, h]
theorem pk_drop (xs : List Int) (m i : Nat) : pk (xs.drop m) i = pk xs (m + i) := by simp [pk, List.getD, List.getElem?_drop]
theorem pk_append (xs ys : List Int) (i : Nat) : pk (xs ++ ys) i = if i < xs.length then pk xs i else pk ys (i - xs.length) := by
  by_cases h : i < xs.length
  · simp [pk, List.getD, List.getElem?_append_left h, h]
  · simp [pk, List.getD, List.getElem?_append_right (Nat.le_of_not_lt h), h]

theorem run_step {p : Int → Bool} (hp : p 0 = false) (xs : List Int) (i : Nat) : run p xs i = if p (pk xs i) = true then run p xs (i + 1) + 1 else 0 := by
  unfold run
  rcases Nat.lt_or_ge i xs.length with h | h
  · rw [List.drop_eq_getElem_cons h, List.takeWhile_cons]
    have e : pk xs i = xs[i] := by simp [pk, List.getD, h]
    rw [e]
    split <;> simp
  · rw [List.drop_of_length_le h, pk_ge h, hp]
    simp

theorem run_zero {p : Int → Bool} (hp : p 0 = false) {xs : List Int} {i : Nat} (h : p (pk xs i) = false) : run p xs i = 0 := by
  rw [run_step hp, h]; simp
theorem run_succ {p : Int → Bool} (hp : p 0 = false) {xs : List Int} {i : Nat} (h : p (pk xs i) = true) : run p xs i = run p xs (i + 1) + 1 := by
  rw [run_step hp, h]; simp
theorem run_pos {p : Int → Bool} (hp : p 0 = false) {xs : List Int} {i : Nat} (h : 0 < run p xs i) : p (pk xs i) = true := by
  cases c : p (pk xs i) with
  | true => rfl
  | false => rw [run_zero hp c] at h; omega
theorem run_le (p : Int → Bool) (xs : List Int) (i : Nat) : run p xs i ≤ xs.length - i := by
  unfold run
  have := List.IsPrefix.length_le (List.takeWhile_prefix p (l := xs.drop i))
  rw [List.length_drop] at this
  exact this
theorem run_all {p : Int → Bool} {xs : List Int} {i : Nat} : ∀ j, j < run p xs i → p (pk xs (i + j)) = true := by
  intro j hj
  have h1 := List.takeWhile_prefix p (l := xs.drop i)
  obtain ⟨t, ht⟩ := h1
  have h2 : (xs.drop i)[j]? = ((xs.drop i).takeWhile p)[j]? := by
    conv => lhs; rw [← ht]
    rw [List.getElem?_append_left hj]
  rw [List.getElem?_drop, List.getElem?_eq_getElem hj] at h2
  have h3 : pk xs (i + j) = ((xs.drop i).takeWhile p)[j] := by simp [pk, List.getD, h2]
  rw [h3]
  have := List.all_takeWhile (p := p) (l := xs.drop i)
  rw [List.all_eq_true] at this
  exact this _ (List.getElem_mem hj)
theorem run_end {p : Int → Bool} (hp : p 0 = false) {xs : List Int} : ∀ (n i : Nat), run p xs i = n → p (pk xs (i + n)) = false := by
  intro n
  induction n with
  | zero =>
    intro i h
    rw [Nat.add_zero]
    cases c : p (pk xs i) with
    | false => rfl
    | true => rw [run_succ hp c] at h; omega
  | succ n ih =>
    intro i h
    have h1 := run_pos hp (show 0 < run p xs i by omega)
    rw [run_succ hp h1] at h
    have := ih (i + 1) (by omega)
    rw [show i + (n + 1) = i + 1 + n by omega]
    exact this
/-- A run is what it is: n bytes have p, the next one has not. -/
theorem run_is {p : Int → Bool} (hp : p 0 = false) {xs : List Int} : ∀ (n i : Nat), (∀ j, j < n → p (pk xs (i + j)) = true) → p (pk xs (i + n)) = false → run p xs i = n := by
  intro n
  induction n with
  | zero => intro i _ h; exact run_zero hp h
  | succ n ih =>
    intro i h1 h2
    have h0 := h1 0 (by omega)
    rw [Nat.add_zero] at h0
    rw [run_succ hp h0]
    rw [ih (i + 1) (fun j hj => by rw [show i + 1 + j = i + (j + 1) by omega]; exact h1 (j + 1) (by omega)) (by rw [show i + 1 + n = i + (n + 1) by omega]; exact h2)]
theorem run_take {p : Int → Bool} (hp : p 0 = false) (xs : List Int) (m i : Nat) : run p (xs.take m) i = min (run p xs i) (m - i) := by
  apply run_is hp
  · intro j hj
    rw [pk_take, if_pos (by omega)]
    exact run_all j (by omega)
  · rw [pk_take]
    by_cases c : i + min (run p xs i) (m - i) < m
    · rw [if_pos c, show min (run p xs i) (m - i) = run p xs i by omega]
      exact run_end hp _ _ rfl
    · rw [if_neg c]; exact hp

theorem dg0 : dg 0 = false := rfl
theorem bl0 : bl 0 = false := rfl

/-- A literal's parts: its sign, the digits ahead of and behind the point, the exponent that is written, the place behind it. -/
structure Lt where
  neg : Bool
  ah : List Int
  bh : List Int
  sc : Int
  en : Nat

/-- An exponent's digits as a number, cut at 10^15. -/
def cap (l : List Int) : Int := l.foldl (fun s x => min (10 * s + (x - 48)) 1000000000000000) 0
theorem cap_nil : cap [] = 0 := rfl
theorem cap_snoc (l : List Int) (x : Int) : cap (l ++ [x]) = min (10 * cap l + (x - 48)) 1000000000000000 := by simp [cap]
theorem take_snoc {xs : List Int} {v c : Nat} (h : v + c < xs.length) : (xs.drop v).take (c + 1) = (xs.drop v).take c ++ [pk xs (v + c)] := by
  rw [List.take_add_one, List.getElem?_drop, List.getElem?_eq_getElem h]
  simp [pk, List.getD, h]
theorem cap_b : ∀ (l : List Int), (∀ x ∈ l, dg x = true) → 0 ≤ cap l ∧ cap l ≤ 1000000000000000 := by
  intro l
  rw [← List.reverse_reverse l]
  induction l.reverse with
  | nil => intro _; simp [cap]
  | cons x t ih =>
    intro h
    rw [List.reverse_cons, cap_snoc]
    have h1 := ih (fun y hy => h y (by simp at hy ⊢; exact .inl hy))
    have h2 := dg_iff.1 (h x (by simp))
    omega

/-- Where the digits behind the sign begin. -/
def p1 (xs : List Int) (k : Nat) : Nat := k + sg xs k
/-- Where they end. -/
def p2 (xs : List Int) (k : Nat) : Nat := p1 xs k + run dg xs (p1 xs k)
/-- How many digits stand behind the point. -/
def bn (xs : List Int) (k : Nat) : Nat := if pk xs (p2 xs k) = 46 then run dg xs (p2 xs k + 1) else 0
/-- The place behind the digits and the point. -/
def p3 (xs : List Int) (k : Nat) : Nat := if pk xs (p2 xs k) = 46 then p2 xs k + 1 + run dg xs (p2 xs k + 1) else p2 xs k
/-- Where the exponent's digits begin, behind a letter at t. -/
def p4 (xs : List Int) (t : Nat) : Nat := t + 1 + sg xs (t + 1)
def isE (x : Int) : Bool := decide (x = 101) || decide (x = 69)
/-- Has it an exponent? -/
def hasE (xs : List Int) (t : Nat) : Bool := isE (pk xs t) && dg (pk xs (p4 xs t))
def some? (xs : List Int) (k : Nat) : Prop := run dg xs (p1 xs k) + bn xs k ≠ 0
instance (xs : List Int) (k : Nat) : Decidable (some? xs k) := inferInstanceAs (Decidable (_ ≠ _))
def lit (xs : List Int) (k : Nat) : Lt :=
  { neg := decide (pk xs k = 45)
    ah := (xs.drop (p1 xs k)).take (run dg xs (p1 xs k))
    bh := (xs.drop (p2 xs k + 1)).take (bn xs k)
    sc := if hasE xs (p3 xs k) = true then (if pk xs (p3 xs k + 1) = 45 then - cap ((xs.drop (p4 xs (p3 xs k))).take (run dg xs (p4 xs (p3 xs k)))) else cap ((xs.drop (p4 xs (p3 xs k))).take (run dg xs (p4 xs (p3 xs k))))) else 0
    en := if hasE xs (p3 xs k) = true then p4 xs (p3 xs k) + run dg xs (p4 xs (p3 xs k)) else p3 xs k }
def rd (xs : List Int) (k : Nat) : Option Lt := if some? xs k then some (lit xs k) else none

theorem sg_le (xs : List Int) (i : Nat) : sg xs i ≤ 1 := by unfold sg; split <;> omega
theorem sg_lt {xs : List Int} {i : Nat} (h : sg xs i = 1) : i < xs.length := by
  unfold sg at h
  split at h
  · next c => exact pk_lt (by omega)
  · omega
theorem sg_take (xs : List Int) (m i : Nat) (h : i < m) : sg (xs.take m) i = sg xs i := by simp only [sg, pk_take, if_pos h]
theorem sg_past (xs : List Int) (m i : Nat) (h : m ≤ i) : sg (xs.take m) i = 0 := by simp only [sg, pk_take, if_neg (show ¬ i < m by omega)]; simp

theorem en_eq (xs : List Int) (k : Nat) : (lit xs k).en = if hasE xs (p3 xs k) = true then p4 xs (p3 xs k) + run dg xs (p4 xs (p3 xs k)) else p3 xs k := rfl
theorem p3_en (xs : List Int) (k : Nat) : p3 xs k ≤ (lit xs k).en := by
  rw [en_eq]
  split
  · unfold p4; omega
  · omega
theorem p2_p3 (xs : List Int) (k : Nat) : p2 xs k ≤ p3 xs k := by unfold p3; split <;> omega
theorem p3_lt (xs : List Int) (k : Nat) : pk xs (p2 xs k) = 46 → p2 xs k < p3 xs k := by intro h; unfold p3; rw [if_pos h]; omega

theorem p1_le (xs : List Int) (k : Nat) (h : k ≤ xs.length) : p1 xs k ≤ xs.length := by
  unfold p1
  have := sg_le xs k
  rcases Nat.lt_or_ge (sg xs k) 1 with c | c
  · omega
  · have := sg_lt (xs := xs) (i := k) (by omega); omega
theorem p2_le (xs : List Int) (k : Nat) (h : k ≤ xs.length) : p2 xs k ≤ xs.length := by
  have h1 := p1_le xs k h
  have h2 := run_le dg xs (p1 xs k)
  unfold p2; omega
theorem p3_le (xs : List Int) (k : Nat) (h : k ≤ xs.length) : p3 xs k ≤ xs.length := by
  have h1 := p2_le xs k h
  unfold p3
  split
  · next c =>
    have h2 := run_le dg xs (p2 xs k + 1)
    have h3 : p2 xs k < xs.length := pk_lt (by omega)
    omega
  · exact h1
theorem p4_le (xs : List Int) (t : Nat) (h : t < xs.length) : p4 xs t ≤ xs.length := by
  unfold p4
  rcases Nat.lt_or_ge (sg xs (t + 1)) 1 with c | c
  · omega
  · have := sg_lt (xs := xs) (i := t + 1) (by have := sg_le xs (t + 1); omega); have := sg_le xs (t + 1); omega
theorem isE_lt {xs : List Int} {t : Nat} (h : isE (pk xs t) = true) : t < xs.length := by
  apply pk_lt
  intro c
  rw [c] at h
  simp [isE] at h
theorem en_le (xs : List Int) (k : Nat) (h : k ≤ xs.length) : (lit xs k).en ≤ xs.length := by
  rw [en_eq]
  split
  · next c =>
    unfold hasE at c
    rw [Bool.and_eq_true] at c
    have h1 := p4_le xs _ (isE_lt c.1)
    have h2 := run_le dg xs (p4 xs (p3 xs k))
    omega
  · exact p3_le xs k h

/-- What is no literal is none in any beginning. -/
theorem rd_none_take {xs : List Int} {k m : Nat} (h : ¬ some? xs k) (hk : k < m) : ¬ some? (xs.take m) k := by
  unfold some? at *
  have h1 : run dg xs (p1 xs k) = 0 := by omega
  have h2 : bn xs k = 0 := by omega
  have e1 : p1 (xs.take m) k = p1 xs k := by unfold p1; rw [sg_take _ _ _ hk]
  have e2 : run dg (xs.take m) (p1 xs k) = 0 := by rw [run_take dg0]; omega
  have e3 : p2 (xs.take m) k = p2 xs k := by unfold p2; rw [e1, e2, h1]
  rw [e1, e2]
  have e4 : bn (xs.take m) k = 0 := by
    unfold bn at *
    rw [e3, pk_take, run_take dg0]
    by_cases c : p2 xs k < m
    · rw [if_pos c]
      split
      · next c2 => rw [if_pos c2] at h2; omega
      · rfl
    · rw [if_neg c]; simp
  omega
theorem rd_none_past {xs : List Int} {k m : Nat} (hk : m ≤ k) : ¬ some? (xs.take m) k := by
  unfold some?
  have z : ∀ i, m ≤ i → pk (xs.take m) i = 0 := fun i hi => by rw [pk_take, if_neg (by omega)]
  have r : ∀ i, m ≤ i → run dg (xs.take m) i = 0 := fun i hi => by rw [run_take dg0]; omega
  have e1 : p1 (xs.take m) k = k := by unfold p1; rw [sg_past _ _ _ hk]; omega
  have e2 : p2 (xs.take m) k = k := by unfold p2; rw [e1, r k hk]; omega
  rw [e1, r k hk]
  unfold bn
  rw [e2, z k hk]
  simp

theorem take_take_drop {xs : List Int} {m p a : Nat} (h : p + a ≤ m) : ((xs.take m).drop p).take a = (xs.drop p).take a := by
  rw [List.drop_take, List.take_take, Nat.min_eq_left (by omega)]

/-- A literal is the same one in any beginning that holds it whole. -/
theorem lit_take {xs : List Int} {k m : Nat} (hs : some? xs k) (hm : (lit xs k).en ≤ m) : some? (xs.take m) k ∧ lit (xs.take m) k = lit xs k := by
  have q3 := p3_en xs k
  have q2 := p2_p3 xs k
  have q1 : p1 xs k ≤ p2 xs k := by unfold p2; omega
  have q0 : k < m := by
    rcases Nat.lt_or_ge k m with c | c
    · exact c
    · exfalso
      have e1 : p3 xs k = k := by unfold p1 at *; omega
      unfold some? at hs
      have : run dg xs (p1 xs k) = 0 := by unfold p2 p1 at *; omega
      rcases Classical.em (pk xs (p2 xs k) = 46) with c2 | c2
      · have := p3_lt xs k c2; unfold p1 at *; omega
      · apply hs; rw [this]; unfold bn; rw [if_neg c2]
  have e1 : p1 (xs.take m) k = p1 xs k := by unfold p1; rw [sg_take _ _ _ q0]
  have e2 : run dg (xs.take m) (p1 xs k) = run dg xs (p1 xs k) := by rw [run_take dg0]; unfold p2 at *; omega
  have e3 : p2 (xs.take m) k = p2 xs k := by unfold p2; rw [e1, e2]
  have e5 : (pk (xs.take m) (p2 xs k) = 46) ↔ (pk xs (p2 xs k) = 46) := by
    rw [pk_take]
    split
    · exact Iff.rfl
    · next c =>
      constructor
      · intro h; omega
      · intro h; have := p3_lt xs k h; omega
  have e6 : pk xs (p2 xs k) = 46 → run dg (xs.take m) (p2 xs k + 1) = run dg xs (p2 xs k + 1) := by
    intro h
    rw [run_take dg0]
    unfold p3 at q3
    rw [if_pos h] at q3
    omega
  have e7 : bn (xs.take m) k = bn xs k := by
    unfold bn
    rw [e3]
    by_cases c : pk xs (p2 xs k) = 46
    · rw [if_pos c, if_pos (e5.2 c), e6 c]
    · rw [if_neg c, if_neg (fun h => c (e5.1 h))]
  have e8 : p3 (xs.take m) k = p3 xs k := by
    unfold p3
    rw [e3]
    by_cases c : pk xs (p2 xs k) = 46
    · rw [if_pos c, if_pos (e5.2 c), e6 c]
    · rw [if_neg c, if_neg (fun h => c (e5.1 h))]
  have hb : p2 xs k + 1 + bn xs k ≤ m ∨ bn xs k = 0 := by
    unfold bn
    by_cases c : pk xs (p2 xs k) = 46
    · rw [if_pos c]; unfold p3 at q3; rw [if_pos c] at q3; omega
    · rw [if_neg c]; omega
  refine ⟨by unfold some? at *; rw [e1, e2, e7]; exact hs, ?_⟩
  have ea : ((xs.take m).drop (p1 xs k)).take (run dg xs (p1 xs k)) = (xs.drop (p1 xs k)).take (run dg xs (p1 xs k)) := take_take_drop (by unfold p2 at *; omega)
  have eb : ((xs.take m).drop (p2 xs k + 1)).take (bn xs k) = (xs.drop (p2 xs k + 1)).take (bn xs k) := by
    rcases hb with h | h
    · exact take_take_drop h
    · rw [h]; simp
  have ec : decide (pk (xs.take m) k = 45) = decide (pk xs k = 45) := by rw [pk_take, if_pos q0]
  by_cases c : hasE xs (p3 xs k) = true
  · have hen : p4 xs (p3 xs k) + run dg xs (p4 xs (p3 xs k)) ≤ m := by
      have : (lit xs k).en = p4 xs (p3 xs k) + run dg xs (p4 xs (p3 xs k)) := by rw [en_eq, if_pos c]
      omega
    have c' := c
    unfold hasE at c'
    rw [Bool.and_eq_true] at c'
    have h1 : p4 xs (p3 xs k) < m := by
      have := run_succ dg0 c'.2
      omega
    have h0 : p3 xs k + 1 ≤ p4 xs (p3 xs k) := by unfold p4; omega
    have f1 : p4 (xs.take m) (p3 xs k) = p4 xs (p3 xs k) := by unfold p4; rw [sg_take _ _ _ (by omega)]
    have f2 : run dg (xs.take m) (p4 xs (p3 xs k)) = run dg xs (p4 xs (p3 xs k)) := by rw [run_take dg0]; omega
    have f3 : hasE (xs.take m) (p3 xs k) = true := by
      unfold hasE
      rw [f1, pk_take, if_pos (by omega), pk_take, if_pos h1]
      exact c
    have f4 : ((xs.take m).drop (p4 xs (p3 xs k))).take (run dg xs (p4 xs (p3 xs k))) = (xs.drop (p4 xs (p3 xs k))).take (run dg xs (p4 xs (p3 xs k))) := take_take_drop hen
    have f5 : pk (xs.take m) (p3 xs k + 1) = pk xs (p3 xs k + 1) := by rw [pk_take, if_pos (by omega)]
    unfold lit
    rw [e1, e2, e3, e7, e8, if_pos f3, if_pos f3, if_pos c, if_pos c, f1, f2, f4, f5, ea, eb, ec]
  · have f3 : ¬ hasE (xs.take m) (p3 xs k) = true := by
      intro h
      apply c
      unfold hasE at *
      rw [Bool.and_eq_true] at *
      have h1 := isE_lt h.1
      rw [List.length_take] at h1
      have g1 := h.1
      rw [pk_take, if_pos (by omega)] at g1
      refine ⟨g1, ?_⟩
      have g2 := h.2
      by_cases d : p3 xs k + 1 < m
      · have f1 : p4 (xs.take m) (p3 xs k) = p4 xs (p3 xs k) := by unfold p4; rw [sg_take _ _ _ d]
        rw [f1, pk_take] at g2
        split at g2
        · exact g2
        · simp [dg] at g2
      · exfalso
        have f1 : p4 (xs.take m) (p3 xs k) = p3 xs k + 1 := by unfold p4; rw [sg_past _ _ _ (by omega)]
        rw [f1, pk_take, if_neg d] at g2
        simp [dg] at g2
    unfold lit
    rw [e1, e2, e3, e7, e8, if_neg f3, if_neg f3, if_neg c, if_neg c, ea, eb, ec]

/-- A literal is not empty, and ends with a digit or a point. -/
theorem lit_last {xs : List Int} {k : Nat} (hs : some? xs k) : k < (lit xs k).en ∧ bl (pk xs ((lit xs k).en - 1)) = false := by
  have key : ∀ i, k ≤ i → (dg (pk xs i) = true ∨ pk xs i = 46) → i + 1 = (lit xs k).en → k < (lit xs k).en ∧ bl (pk xs ((lit xs k).en - 1)) = false := by
    intro i h1 h2 h3
    refine ⟨by omega, ?_⟩
    rw [← h3, Nat.add_sub_cancel, bl_not]
    rcases h2 with h2 | h2
    · have := dg_iff.1 h2; omega
    · omega
  have k1 : k ≤ p1 xs k := by unfold p1; omega
  by_cases c : hasE xs (p3 xs k) = true
  · have he : (lit xs k).en = p4 xs (p3 xs k) + run dg xs (p4 xs (p3 xs k)) := by rw [en_eq, if_pos c]
    have c' := c
    unfold hasE at c'
    rw [Bool.and_eq_true] at c'
    have h1 := run_succ dg0 c'.2
    have h2 := p2_p3 xs k
    have h0 : p3 xs k + 1 ≤ p4 xs (p3 xs k) := by unfold p4; omega
    refine key (p4 xs (p3 xs k) + (run dg xs (p4 xs (p3 xs k)) - 1)) ?_ (.inl (run_all _ (by omega))) (by omega)
    unfold p2 at h2; omega
  · have he : (lit xs k).en = p3 xs k := by rw [en_eq, if_neg c]
    by_cases c2 : pk xs (p2 xs k) = 46
    · have h3 : p3 xs k = p2 xs k + 1 + run dg xs (p2 xs k + 1) := by unfold p3; rw [if_pos c2]
      by_cases c3 : run dg xs (p2 xs k + 1) = 0
      · refine key (p2 xs k) ?_ (.inr c2) (by omega)
        unfold p2; omega
      · refine key (p2 xs k + 1 + (run dg xs (p2 xs k + 1) - 1)) ?_ (.inl (run_all _ (by omega))) (by omega)
        unfold p2; omega
    · have h3 : p3 xs k = p2 xs k := by unfold p3; rw [if_neg c2]
      have h4 : run dg xs (p1 xs k) ≠ 0 := by
        intro h
        apply hs
        rw [h]; unfold bn; rw [if_neg c2]
      refine key (p1 xs k + (run dg xs (p1 xs k) - 1)) (by omega) (.inl (run_all _ (by omega))) ?_
      rw [he, h3]; unfold p2; omega

/-- A Dec. -/
structure D where
  neg : Bool
  ds : List Int
  e : Int
deriving DecidableEq

def z (x : Int) : Bool := decide (x = 48)
/-- Zeros at the head, at the end. -/
def lz (ds : List Int) : Nat := (ds.takeWhile z).length
def tz (ds : List Int) : Nat := lz ds.reverse
/-- The normal form of digits with an exponent. -/
def nrm (neg : Bool) (ds : List Int) (e : Int) : D :=
  if lz ds = ds.length then ⟨neg, [48], 0⟩ else ⟨neg, (ds.drop (lz ds)).take (ds.length - tz ds - lz ds), e + tz ds⟩
def Lt.d (l : Lt) : D := nrm l.neg (l.ah ++ l.bh) (l.sc - l.bh.length)
end Sc
end Go.Proofs.YtnobafmleellhabDoor
