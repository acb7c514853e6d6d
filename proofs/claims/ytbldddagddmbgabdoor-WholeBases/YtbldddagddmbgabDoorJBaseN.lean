/-
  WHAT Unsigned's DIGITS ARE LIKE.
-/
import Derived.Test.YtbldddagddmbgabDoorJC
import Derived.Test.YtbldddagddmbgabDoorNF
namespace Go.Proofs.YtbldddagddmbgabDoor
open Go Go.RowKit Go.Deep
namespace Wh

/-- Digits of a base, brought to the precision. -/
structure FilB (B : Int) (up : Bool) (P v : Int) (xs : List Int) : Prop where
  by_ : By xs
  dig : ∀ i, i < xs.length → wv (xs.getD i 0) < B
  case_ : ∀ i, i < xs.length → (up = true → ¬ (97 ≤ xs.getD i 0 ∧ xs.getD i 0 ≤ 122)) ∧ (up = false → ¬ (65 ≤ xs.getD i 0 ∧ xs.getD i 0 ≤ 90))
  val : Dn.tv B 0 (xs.map wv) = v
  len : P ≤ xs.length
  max : xs.length ≤ 270000
  nil : v = 0 → P = 0 → xs = []
  ne : ¬ (v = 0 ∧ P = 0) → xs ≠ []
  head : xs = [] ∨ (xs.getD 0 0 ≠ 48 ∧ v ≠ 0) ∨ (xs.getD 0 0 = 48 ∧ (xs.length : Int) = P) ∨ (xs = [48] ∧ P = -1 ∧ v = 0)

theorem tv_zeros (B : Int) (k : Nat) : Dn.tv B 0 (List.replicate k (0 : Int)) = 0 := by
  induction k with
  | zero => rfl
  | succ k ih => rw [List.replicate_succ, Dn.tv]; simpa using ih
theorem fil_b {B : Int} {up : Bool} {P u : Int} (u0 : 0 ≤ u) (u1 : u < 18446744073709551616) (hB : 2 ≤ B) (h36 : B ≤ 36) (p0 : -1 ≤ P) (p1 : P ≤ 4096) : FilB B up P u (fil P (dig B up u)) := by
  have D : By (dig B up u) ∧ (∀ i, i < (dig B up u).length → wv ((dig B up u).getD i 0) < B) ∧ (∀ i, i < (dig B up u).length → (up = true → ¬ (97 ≤ (dig B up u).getD i 0 ∧ (dig B up u).getD i 0 ≤ 122)) ∧ (up = false → ¬ (65 ≤ (dig B up u).getD i 0 ∧ (dig B up u).getD i 0 ≤ 90))) ∧ Dn.tv B 0 ((dig B up u).map wv) = u ∧ (dig B up u).length ≤ 262144 ∧ (u = 0 → dig B up u = []) ∧ (u ≠ 0 → dig B up u ≠ [] ∧ (dig B up u).getD 0 0 ≠ 48) := by
    by_cases h : u = 0
    · have e : dig B up u = [] := by rw [dig, if_pos h]
      rw [e, h]
      exact ⟨By.nil, by intro i hi; simp at hi, by intro i hi; simp at hi, rfl, by simp, fun _ => rfl, fun q => absurd rfl q⟩
    · have hv : Nm.val [u] = u := by simp [Nm.val]
      have g := dig_good (B := B) (up := up) (zs := [u]) (limb_one ⟨u0, u1⟩) (by rw [hv]; omega) (Nat.le_trans (Nm.tsize_le _) (by simp)) hB h36
      rw [hv] at g
      exact ⟨dig_by _ _ _, g.dig, g.case_, g.val, g.len, fun q => absurd q h, fun _ => ⟨g.ne, g.head⟩⟩
  obtain ⟨d0, d1, d2, d3, d4, d5, d6⟩ := D
  generalize dig B up u = D at *
  obtain ⟨L, hL⟩ : ∃ L : Int, L = if P = -1 then 1 else P := ⟨_, rfl⟩
  have L0 : (P = -1 ∧ L = 1) ∨ (P ≠ -1 ∧ L = P) := by
    rw [hL]; split
    · exact .inl ⟨by assumption, rfl⟩
    · exact .inr ⟨by assumption, rfl⟩
  have e : fil P D = rep 48 (L - D.length) ++ D := by rw [fil, ← hL]
  rw [e]
  clear hL e
  obtain ⟨m, hm⟩ : ∃ m : Nat, m = (L - (D.length : Int)).toNat := ⟨_, rfl⟩
  have er : rep 48 (L - D.length) = List.replicate m 48 := by rw [rep, hm]
  rw [er]
  have ll : (List.replicate m (48 : Int) ++ D).length = m + D.length := by rw [List.length_append, List.length_replicate]
  have nz : u = 0 ↔ D.length = 0 := by
    constructor
    · intro h; rw [d5 h]; rfl
    · intro h
      by_cases c : u = 0
      · exact c
      · exact absurd (List.eq_nil_of_length_eq_zero h) (d6 c).1
  have gd : ∀ i, (List.replicate m (48 : Int) ++ D).getD i 0 = if i < m then 48 else D.getD (i - m) 0 := by
    intro i
    rw [List.getD_eq_getElem?_getD]
    by_cases h : i < m
    · rw [if_pos h, List.getElem?_append_left (by simpa using h), List.getElem?_replicate, if_pos h]; rfl
    · rw [if_neg h, List.getElem?_append_right (by simpa using h), List.length_replicate, List.getD_eq_getElem?_getD]
  refine ⟨?_, ?_, ?_, ?_, ?_, ?_, ?_, ?_, ?_⟩
  · intro x hx
    rcases List.mem_append.1 hx with q | q
    · have := (List.mem_replicate.1 q).2; omega
    · exact d0 x q
  · intro i hi
    rw [gd i]
    split
    · have : wv 48 = 0 := by decide
      omega
    · exact d1 _ (by omega)
  · intro i hi
    rw [gd i]
    split
    · exact ⟨fun _ => by omega, fun _ => by omega⟩
    · exact d2 _ (by omega)
  · rw [List.map_append, List.map_replicate, show wv 48 = 0 by decide, Dn.tv_append, tv_zeros, d3]
  · rw [ll]; omega
  · rw [ll]; omega
  · intro h1 h2
    apply List.eq_nil_of_length_eq_zero
    rw [ll]; omega
  · intro h c
    rw [c] at ll
    simp at ll
    omega
  · rcases Nat.eq_zero_or_pos m with k | k
    · rw [k, List.replicate_zero, List.nil_append]
      by_cases c : u = 0
      · exact .inl (d5 c)
      · exact .inr (.inl ⟨(d6 c).2, c⟩)
    · have e0 : (List.replicate m (48 : Int) ++ D).getD 0 0 = 48 := by rw [gd 0, if_pos k]
      rcases L0 with ⟨a, b⟩ | ⟨a, b⟩
      · right; right; right
        have h1 : D = [] := List.eq_nil_of_length_eq_zero (by omega)
        have h2 : m = 1 := by rw [hm, h1]; simp; omega
        exact ⟨by rw [h1, h2]; rfl, a, by omega⟩
      · right; right; left
        exact ⟨e0, by rw [ll]; omega⟩
end Wh

/-- FromBase of digits that fit. -/
theorem fromBase_fits (xs : List Int) (B u : Int) (w : World) (hB : 2 ≤ B) (h36 : B ≤ 36) (hx : Wh.By xs) (hl : xs.length ≤ 270000) (hd : ∀ i, i < xs.length → wv (xs.getD i 0) < B) (h0 : xs ≠ []) (hv : Dn.tv B 0 (xs.map wv) = u) (hu : u < 18446744073709551616) :
    Calls Tryd.prog 6 #[.string (strOfNums xs), .int .i64 B] w fun e w' => ∃ r os, e = .returned (.tuple #[.slice r (List.length os) (List.length os), .int .i64 0, .int .i64 0]) ∧ Ans w.heap.size w' r os u ∧ Below w.heap.size w w' := by
  refine (fromBase_any (strOfNums xs) xs B w (Str.of_nums hx) (by omega) (by omega) (by omega)).mono ?_
  rintro e w' ⟨r, os, at_, E, rfl, h, d⟩
  have hp : (18446744073709551616 : Int) ≤ Nm.pw 4096 := by
    have := Nm.pw_mono (show 1 ≤ 4096 by omega)
    exact this
  cases h with
  | base h => omega
  | empty _ _ h => exact absurd h h0
  | digit t _ _ h1 _ h3 => have := hd t h1; omega
  | big _ _ _ _ h => rw [hv] at h; omega
  | ok r os _ _ _ _ _ h => rw [hv] at h; exact ⟨r, os, rfl, h, d⟩
end Go.Proofs.YtbldddagddmbgabDoor
