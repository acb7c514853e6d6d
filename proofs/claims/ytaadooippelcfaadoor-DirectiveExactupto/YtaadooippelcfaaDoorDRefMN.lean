/-
  THE PLACES OF A DIRECTIVE's PARTS, as the document finds them: mathematics.
-/
import Derived.Test.YtaadooippelcfaaDoorRnForm
namespace Go.Proofs.YtaadooippelcfaaDoor
namespace Dr

theorem nx_drop (xs : List Int) (a t : Nat) : nx (xs.drop a) t = nx xs (a + t) := by
  simp [nx, List.getD_eq_getElem?_getD]
theorem nx_end {xs : List Int} {j : Nat} (h : xs.length ≤ j) : nx xs j = 0 := by
  simp [nx, List.getD_eq_getElem?_getD, List.getElem?_eq_none h]
theorem head_nx (xs : List Int) (a : Nat) : (xs.drop a).headD 0 = nx xs a := by
  rw [nx, List.getD_eq_getElem?_getD]
  rcases Nat.lt_or_ge a xs.length with h | h
  · rw [List.drop_eq_getElem_cons h, List.getElem?_eq_getElem h]; rfl
  · rw [List.drop_of_length_le h, List.getElem?_eq_none h]; rfl
theorem ct_is {p : Int → Bool} : ∀ {l : List Int} {j : Nat}, (∀ t, t < j → p (nx l t) = true) → j ≤ l.length → (j = l.length ∨ p (nx l j) = false) → ct p l = j
  | [], j, _, h, _ => by simp at h; rw [h]; rfl
  | x :: l, 0, _, _, h => by
    rcases h with h | h
    · simp at h
    · rw [ct, if_neg (by rw [show nx (x :: l) 0 = x from rfl] at h; rw [h]; simp)]
  | x :: l, j + 1, h1, h2, h3 => by
    have k := h1 0 (by omega)
    rw [show nx (x :: l) 0 = x from rfl] at k
    rw [ct, if_pos k, ct_is (l := l) (j := j) (fun t ht => h1 (t + 1) (by omega)) (by simpa using h2) (by
      rcases h3 with h | h
      · exact .inl (by simpa using h)
      · exact .inr h)]
theorem ct_at {p : Int → Bool} {xs : List Int} {a j : Nat} (ha : a ≤ j) (h1 : ∀ t, a ≤ t → t < j → p (nx xs t) = true) (h2 : j ≤ xs.length) (h3 : j = xs.length ∨ p (nx xs j) = false) : a + ct p (xs.drop a) = j := by
  have : ct p (xs.drop a) = j - a := by
    refine ct_is (fun t ht => ?_) (by rw [List.length_drop]; omega) ?_
    · rw [nx_drop]; exact h1 _ (by omega) (by omega)
    · rw [nx_drop, show a + (j - a) = j by omega, List.length_drop]
      rcases h3 with h | h
      · exact .inl (by omega)
      · exact .inr h
  omega

/-- The ends of flags, of a number, of a width, of a precision. -/
def mF (xs : List Int) (i : Nat) : Nat := i + 1 + ct isF (xs.drop (i + 1))
def wl (xs : List Int) (k : Nat) : Nat := if nx xs k = 42 then k + 1 else k + ct isD (xs.drop k)
def mW (xs : List Int) (i : Nat) : Nat := wl xs (mF xs i)
def mP (xs : List Int) (i : Nat) : Nat := if nx xs (mW xs i) = 46 then wl xs (mW xs i + 1) else mW xs i

theorem nx_lt {xs : List Int} {j : Nat} {c : Int} (h : nx xs j = c) (hc : c ≠ 0) : j < xs.length := by
  rcases Nat.lt_or_ge j xs.length with k | k
  · exact k
  · rw [nx_end k] at h; exact absurd h.symm hc
theorem ct_room (p : Int → Bool) {xs : List Int} {a : Nat} (h : a ≤ xs.length) : a + ct p (xs.drop a) ≤ xs.length := by
  have := ct_le p (xs.drop a); rw [List.length_drop] at this; omega
theorem mF_le {xs : List Int} {i : Nat} (h : i < xs.length) : mF xs i ≤ xs.length := ct_room _ h
theorem mF_ge (xs : List Int) (i : Nat) : i + 1 ≤ mF xs i := by unfold mF; omega
theorem wl_le {xs : List Int} {k : Nat} (h : k ≤ xs.length) : wl xs k ≤ xs.length := by
  unfold wl
  split
  · rename_i q; exact nx_lt q (by decide)
  · exact ct_room _ h
theorem wl_ge (xs : List Int) (k : Nat) : k ≤ wl xs k := by unfold wl; split <;> omega
theorem mW_le {xs : List Int} {i : Nat} (h : i < xs.length) : mW xs i ≤ xs.length := wl_le (mF_le h)
theorem mW_ge (xs : List Int) (i : Nat) : mF xs i ≤ mW xs i := wl_ge _ _
theorem mP_le {xs : List Int} {i : Nat} (h : i < xs.length) : mP xs i ≤ xs.length := by
  unfold mP
  split
  · rename_i q; exact wl_le (nx_lt q (by decide))
  · exact mW_le h
theorem mP_ge (xs : List Int) (i : Nat) : mW xs i ≤ mP xs i := by
  unfold mP
  split
  · have := wl_ge xs (mW xs i + 1); omega
  · omega

/-- The digits alone write what they and the rest write. -/
theorem dN_take (n : Int) (l : List Int) : dN n (l.take (ct isD l)) = dN n l := by
  induction l generalizing n with
  | nil => simp
  | cons c l ih =>
    rw [ct]
    by_cases h : isD c = true
    · rw [if_pos h, List.take_succ_cons, dN, dN, if_pos h, if_pos h, ih]
    · rw [if_neg h, List.take_zero, dN, dN, if_neg h]
theorem nx_take {l : List Int} {n t : Nat} (h : t < n) : nx (l.take n) t = nx l t := by
  simp [nx, List.getD_eq_getElem?_getD, h]
theorem ct_all (p : Int → Bool) (l : List Int) : ∀ t, t < ct p l → p (nx l t) = true := by
  induction l with
  | nil => intro t h; simp [ct] at h
  | cons c l ih =>
    intro t h
    rw [ct] at h
    by_cases k : p c = true
    · rw [if_pos k] at h
      cases t with
      | zero => exact k
      | succ t => exact ih t (by omega)
    · rw [if_neg k] at h; omega

/-- The sum of flags, one by one. -/
theorem or_bit : ∀ s : Fin 32, ∀ j : Fin 5, (s.val ||| 2 ^ j.val) = if s.val / 2 ^ j.val % 2 = 0 then s.val + 2 ^ j.val else s.val := by decide
theorem fS_step {s : Nat} {l : List Int} (h : isF (l.headD 0) = true) : fS s l = fS (s ||| 2 ^ (idx marks (l.headD 0)).toNat) l.tail := by
  cases l with
  | nil => simp [isF, idx, marks] at h
  | cons c l => rw [fS, if_pos (show isF c = true from h)]; rfl
end Dr
end Go.Proofs.YtaadooippelcfaaDoor
