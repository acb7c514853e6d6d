/-
  NORMAL FORMS: what trimming leaves.
-/
import Derived.Test.YtaadooippelcfaaDoorVNum
namespace Go.Proofs.YtaadooippelcfaaDoor
namespace Sc

theorem z_iff {x : Int} : z x = true ↔ x = 48 := by simp [z]
theorem z_not {x : Int} : z x = false ↔ x ≠ 48 := by simp [z]
theorem z0 : z 0 = false := rfl
theorem lz_run (ds : List Int) : lz ds = run z ds 0 := by simp [lz, run]
theorem pk_rev (ds : List Int) (i : Nat) (h : i < ds.length) : pk ds.reverse i = pk ds (ds.length - 1 - i) := by
  simp only [pk, List.getD]
  rw [List.getElem?_reverse h]
theorem lz_is {ds : List Int} {j : Nat} (h1 : ∀ i, i < j → pk ds i = 48) (h2 : pk ds j ≠ 48) : lz ds = j := by
  rw [lz_run]
  apply run_is z0
  · intro i hi; rw [Nat.zero_add, z_iff]; exact h1 i hi
  · rw [Nat.zero_add, z_not]; exact h2
theorem tz_is {ds : List Int} {k : Nat} (hk : k ≤ ds.length) (h1 : ∀ i, k ≤ i → i < ds.length → pk ds i = 48) (h2 : 0 < k → pk ds (k - 1) ≠ 48) : tz ds = ds.length - k := by
  unfold tz
  apply lz_is
  · intro i hi; rw [pk_rev ds i (by omega)]; exact h1 _ (by omega) (by omega)
  · by_cases c : k = 0
    · subst c; rw [pk_ge (by simp)]; omega
    · rw [pk_rev ds _ (by omega), show ds.length - 1 - (ds.length - k) = k - 1 by omega]; exact h2 (by omega)
theorem lz_le (ds : List Int) : lz ds ≤ ds.length := by rw [lz_run]; have := run_le z ds 0; omega
theorem lz_at {ds : List Int} {i : Nat} (h : i < lz ds) : pk ds i = 48 := by
  rw [lz_run] at h
  have := run_all i h
  rw [Nat.zero_add, z_iff] at this; exact this
theorem lz_end (ds : List Int) : pk ds (lz ds) ≠ 48 := by
  rw [lz_run]
  have := run_end z0 (xs := ds) _ 0 rfl
  rw [Nat.zero_add, z_not] at this; exact this
theorem tz_le (ds : List Int) : tz ds ≤ ds.length := by unfold tz; have := lz_le ds.reverse; simpa using this
theorem tz_at {ds : List Int} {i : Nat} (h : ds.length - tz ds ≤ i) (hi : i < ds.length) : pk ds i = 48 := by
  have := lz_at (ds := ds.reverse) (i := ds.length - 1 - i) (by unfold tz at h; have := tz_le ds; unfold tz at this; omega)
  rw [pk_rev ds _ (by omega)] at this
  rw [show ds.length - 1 - (ds.length - 1 - i) = i by omega] at this; exact this
theorem tz_end {ds : List Int} (h : tz ds < ds.length) : pk ds (ds.length - tz ds - 1) ≠ 48 := by
  have := lz_end ds.reverse
  unfold tz at *
  rw [pk_rev ds _ h] at this
  rw [show ds.length - lz ds.reverse - 1 = ds.length - 1 - lz ds.reverse by omega]; exact this
/-- Where not all digits are zeros, the zeros at the head and at the end don't meet. -/
theorem lz_tz {ds : List Int} (h : lz ds ≠ ds.length) : lz ds + tz ds < ds.length := by
  have h1 := lz_le ds
  have h2 := lz_end ds
  have h3 := tz_le ds
  rcases Nat.lt_or_ge (lz ds + tz ds) ds.length with c | c
  · exact c
  · exact absurd (tz_at (ds := ds) (i := lz ds) (by omega) (by omega)) h2

theorem nrm_zero {neg : Bool} {ds : List Int} {e : Int} (h : lz ds = ds.length) : nrm neg ds e = ⟨neg, [48], 0⟩ := by unfold nrm; rw [if_pos h]
theorem nrm_pos {neg : Bool} {ds : List Int} {e : Int} (h : lz ds ≠ ds.length) : nrm neg ds e = ⟨neg, (ds.drop (lz ds)).take (ds.length - tz ds - lz ds), e + tz ds⟩ := by unfold nrm; rw [if_neg h]
theorem nrm_neg (neg : Bool) (ds : List Int) (e : Int) : (nrm neg ds e).neg = neg := by unfold nrm; split <;> rfl

/-- What two trims leave is the normal form. -/
theorem nrm_of_trims {neg : Bool} {ds : List Int} {e : Int} {j k : Nat} (hj : j < ds.length) (h1 : ∀ i, i < j → ds.getD i 0 = 48) (h2 : ds.getD j 0 ≠ 48)
    (hk : k ≤ (ds.drop j).length) (h3 : ∀ i, k ≤ i → i < (ds.drop j).length → (ds.drop j).getD i 0 = 48) (h4 : 0 < k → (ds.drop j).getD (k - 1) 0 ≠ 48) :
    nrm neg ds e = ⟨neg, (ds.drop j).take k, e + (ds.drop j).length - k⟩ ∧ 0 < k := by
  have e1 : lz ds = j := lz_is h1 h2
  have hd : ∀ i, (ds.drop j).getD i 0 = pk ds (j + i) := fun i => pk_drop ds j i
  rw [List.length_drop] at *
  have k0 : 0 < k := by
    rcases Nat.eq_zero_or_pos k with c | c
    · subst c
      have := h3 0 (Nat.le_refl _) (by omega)
      rw [hd] at this
      exact absurd this h2
    · exact c
  have e2 : tz ds = ds.length - (j + k) := by
    apply tz_is (by omega)
    · intro i hi1 hi2
      have := h3 (i - j) (by omega) (by omega)
      rw [hd, show j + (i - j) = i by omega] at this; exact this
    · intro _
      have := h4 k0
      rw [hd, show j + (k - 1) = j + k - 1 by omega] at this; exact this
  refine ⟨?_, k0⟩
  rw [nrm_pos (by omega), e1, e2, show ds.length - (ds.length - (j + k)) - j = k by omega]
  congr 1
  omega
theorem nrm_of_none {neg : Bool} {ds : List Int} {e : Int} (h : ∀ i, i < ds.length → ds.getD i 0 = 48) : nrm neg ds e = ⟨neg, [48], 0⟩ := by
  apply nrm_zero
  have h1 := lz_le ds
  have h2 := lz_end ds
  rcases Nat.lt_or_ge (lz ds) ds.length with c | c
  · exact absurd (h _ c) h2
  · omega

/-- What Number answers: the Dec and the place. -/
def num (xs : List Int) : D × Nat := if some? xs (run bl xs 0) then ((lit xs (run bl xs 0)).d, (lit xs (run bl xs 0)).en) else (⟨false, [], 0⟩, 0)
/-- What Whole answers. -/
def whl (xs : List Int) : D × Bool := if some? xs (run bl xs 0) ∧ (lit xs (run bl xs 0)).en + run bl xs (lit xs (run bl xs 0)).en = xs.length then ((lit xs (run bl xs 0)).d, true) else (⟨false, [], 0⟩, false)
theorem nrm_len (neg : Bool) (ds : List Int) (e : Int) : (nrm neg ds e).ds.length ≤ ds.length + 1 := by
  unfold nrm
  split
  · simp
  · simp only [List.length_take, List.length_drop]; omega
theorem nrm_e (neg : Bool) (ds : List Int) (e : Int) : (nrm neg ds e).e = 0 ∨ (e ≤ (nrm neg ds e).e ∧ (nrm neg ds e).e ≤ e + ds.length) := by
  unfold nrm
  split
  · exact .inl rfl
  · have := tz_le ds
    refine .inr ⟨?_, ?_⟩
    · show e ≤ e + tz ds; omega
    · show e + (tz ds : Int) ≤ e + ds.length; omega
theorem lit_len (xs : List Int) (k : Nat) : (lit xs k).ah.length + (lit xs k).bh.length ≤ xs.length := by
  show ((xs.drop _).take _).length + ((xs.drop _).take _).length ≤ _
  simp only [List.length_take, List.length_drop]
  have : p1 xs k + run dg xs (p1 xs k) = p2 xs k := rfl
  omega
theorem lit_sc (xs : List Int) (k : Nat) : -1000000000000000 ≤ (lit xs k).sc ∧ (lit xs k).sc ≤ 1000000000000000 := by
  have h : 0 ≤ cap ((xs.drop (p4 xs (p3 xs k))).take (run dg xs (p4 xs (p3 xs k)))) ∧ cap ((xs.drop (p4 xs (p3 xs k))).take (run dg xs (p4 xs (p3 xs k)))) ≤ 1000000000000000 := by
    apply cap_b
    intro x hx
    obtain ⟨i, hi, rfl⟩ := List.mem_iff_getElem.1 hx
    rw [List.length_take, List.length_drop] at hi
    have := run_all (p := dg) (xs := xs) (i := p4 xs (p3 xs k)) i (by omega)
    have e : pk xs (p4 xs (p3 xs k) + i) = ((xs.drop (p4 xs (p3 xs k))).take (run dg xs (p4 xs (p3 xs k))))[i] := by
      have hi2 : p4 xs (p3 xs k) + i < xs.length := by omega
      simp [pk, List.getD, hi2]
    rw [← e]; exact this
  unfold lit
  simp only
  split
  · split <;> omega
  · omega

/-- THE LONGEST: what Number takes is whole, and no longer beginning is, but for blanks. -/
theorem run_bl_take (xs : List Int) (m : Nat) : run bl (xs.take m) 0 = min (run bl xs 0) m := by rw [run_take bl0]; simp
theorem num_zero {xs : List Int} (h : (num xs).2 = 0) : num xs = (⟨false, [], 0⟩, 0) ∧ ∀ m, whl (xs.take m) = (⟨false, [], 0⟩, false) := by
  have hn : ¬ some? xs (run bl xs 0) := by
    intro c
    unfold num at h
    rw [if_pos c] at h
    have := (lit_last c).1
    simp only at h
    omega
  refine ⟨by unfold num; rw [if_neg hn], fun m => ?_⟩
  unfold whl
  rw [if_neg]
  rintro ⟨c, -⟩
  rw [run_bl_take] at c
  rcases Nat.lt_or_ge (run bl xs 0) m with d | d
  · rw [show min (run bl xs 0) m = run bl xs 0 by omega] at c
    exact rd_none_take hn d c
  · rw [show min (run bl xs 0) m = m by omega] at c
    exact rd_none_past (Nat.le_refl _) c
theorem num_pos {xs : List Int} (h : 0 < (num xs).2) : some? xs (run bl xs 0) ∧ num xs = ((lit xs (run bl xs 0)).d, (lit xs (run bl xs 0)).en) := by
  by_cases c : some? xs (run bl xs 0)
  · exact ⟨c, by unfold num; rw [if_pos c]⟩
  · unfold num at h; rw [if_neg c] at h; simp at h
theorem num_le (xs : List Int) : (num xs).2 ≤ xs.length := by
  unfold num
  split
  · exact en_le xs _ (by have := run_le bl xs 0; omega)
  · exact Nat.zero_le _
theorem whl_take {xs : List Int} {m : Nat} (h : 0 < (num xs).2) (hm : (num xs).2 ≤ m) (hl : m ≤ xs.length) :
    (whl (xs.take m)).2 = decide ((num xs).2 + run bl (xs.take m) (num xs).2 = m) ∧ ((whl (xs.take m)).2 = true → (whl (xs.take m)).1 = (num xs).1) := by
  obtain ⟨hs, e⟩ := num_pos h
  rw [e] at hm ⊢
  simp only at hm ⊢
  obtain ⟨l1, l2⟩ := lit_take hs hm
  have hk : min (run bl xs 0) m = run bl xs 0 := by have := (lit_last hs).1; omega
  have hle : (xs.take m).length = m := by simp; omega
  unfold whl
  rw [run_bl_take, hk, l2, hle]
  by_cases c : (lit xs (run bl xs 0)).en + run bl (xs.take m) (lit xs (run bl xs 0)).en = m
  · rw [if_pos ⟨l1, c⟩]; exact ⟨by simp [c], fun _ => rfl⟩
  · rw [if_neg (fun d => c d.2)]; exact ⟨by simp [c], fun d => by simp at d⟩
theorem whl_at {xs : List Int} (h : 0 < (num xs).2) : whl (xs.take (num xs).2) = ((num xs).1, true) := by
  obtain ⟨h1, h2⟩ := whl_take h (Nat.le_refl _) (num_le xs)
  have h3 : (whl (xs.take (num xs).2)).2 = true := by
    rw [h1, run_take bl0]; simp
  exact Prod.ext (h2 h3) h3
theorem num_last {xs : List Int} (h : 0 < (num xs).2) : bl (pk xs ((num xs).2 - 1)) = false := by
  obtain ⟨hs, e⟩ := num_pos h
  rw [e]
  exact (lit_last hs).2
theorem whl_more {xs : List Int} {m : Nat} (h : 0 < (num xs).2) (hm : (num xs).2 < m) (hl : m ≤ xs.length) (hb : bl (pk xs (m - 1)) = false) : (whl (xs.take m)).2 = false := by
  rw [(whl_take h (by omega) hl).1, decide_eq_false_iff_not]
  intro c
  have := run_all (p := bl) (xs := xs.take m) (i := (num xs).2) (m - 1 - (num xs).2) (by omega)
  rw [show (num xs).2 + (m - 1 - (num xs).2) = m - 1 by omega, pk_take, if_pos (by omega), hb] at this
  exact absurd this (by simp)
end Sc
end Go.Proofs.YtaadooippelcfaaDoor
