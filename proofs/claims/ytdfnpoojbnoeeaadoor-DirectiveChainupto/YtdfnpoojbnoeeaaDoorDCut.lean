/-
  A FORMAT CUT: broken off anywhere; a fault's place; what stands behind a fault.
-/
import Derived.Test.YtdfnpoojbnoeeaaDoorDLoc
namespace Go.Proofs.YtdfnpoojbnoeeaaDoor
namespace Dr

theorem nu_ne {l : List Int} (h : ne l ≠ 0) : nu l = 0 ∧ l ≠ [] := by
  refine ⟨?_, fun q => by subst q; exact h (by decide)⟩
  unfold ne at h
  unfold nu
  split at h
  · exact absurd rfl h
  · rename_i h1
    split at h
    · exact absurd rfl h
    · rename_i h2
      split at h
      · rename_i h3
        rw [if_neg h1, if_neg h2, if_pos h3]
      · exact absurd rfl h
/-- What de and du are. -/
theorem de_split (l : List Int) : (ne (l1 l) ≠ 0 ∧ de l = ne (l1 l) ∧ du l = ct isF l) ∨ (ne (l1 l) = 0 ∧ pe (l2 l) ≠ 0 ∧ de l = pe (l2 l) ∧ du l = ct isF l + nu (l1 l) + pu (l2 l)) ∨
    (ne (l1 l) = 0 ∧ pe (l2 l) = 0 ∧ de l = ve (l3 l) ∧ du l = ct isF l + nu (l1 l) + pu (l2 l) + vu (l3 l)) := by
  by_cases h : ne (l1 l) = 0
  · by_cases k : pe (l2 l) = 0
    · right; right
      refine ⟨h, k, ?_, ?_⟩
      · rw [de, if_neg (by simp [h]), if_neg (by simp [k])]
      · rw [du, if_neg (by simp [h]), if_neg (by simp [k])]
    · right; left
      refine ⟨h, k, ?_, ?_⟩
      · rw [de, if_neg (by simp [h]), if_pos k]
      · rw [du, if_neg (by simp [h]), if_pos k]
  · left
    exact ⟨h, by rw [de, if_pos h], by rw [du, if_pos h]⟩
theorem ne_val (l : List Int) : ne l = 0 ∨ ne l = 6 := by
  unfold ne; split <;> (try split) <;> (try split) <;> simp
theorem pe_val (l : List Int) : pe l = 0 ∨ pe l = 6 := by
  unfold pe; split
  · exact ne_val _
  · simp
theorem ve_val (l : List Int) : ve l = 0 ∨ ve l = 130 ∨ (ve l = 131 ∧ l = []) := by
  unfold ve; split
  · rename_i h; simp [h]
  · split <;> simp
theorem l_len (l : List Int) : (l1 l).length = l.length - ct isF l ∧ (l2 l).length = (l1 l).length - nu (l1 l) ∧ (l3 l).length = (l2 l).length - pu (l2 l) := by
  unfold l3 l2 l1; simp only [List.length_drop]; exact ⟨trivial, trivial, trivial⟩
/-- Ended: all is taken. -/
theorem end_all {l : List Int} (h : de l = 131) : du l = l.length ∧ ne (l1 l) = 0 ∧ pe (l2 l) = 0 ∧ l3 l = [] := by
  have a := ct_le isF l
  have b := nu_le (l1 l)
  have c := pu_le (l2 l)
  obtain ⟨x, y, z⟩ := l_len l
  rcases de_split l with ⟨h1, h2, h3⟩ | ⟨h1, h2, h3, h4⟩ | ⟨h1, h2, h3, h4⟩
  · rcases ne_val (l1 l) with q | q <;> omega
  · rcases pe_val (l2 l) with q | q <;> omega
  · rcases ve_val (l3 l) with q | q | ⟨q, r⟩
    · omega
    · omega
    · refine ⟨?_, h1, h2, r⟩
      rw [vu, if_neg (by omega)] at h4
      rw [r] at z
      simp at z
      omega
theorem pu_pe {l : List Int} (h : pe l ≠ 0) : pu l = 1 ∧ 2 ≤ l.length ∧ l.headD 0 = 46 ∧ ne l.tail ≠ 0 := by
  unfold pe at h
  split at h
  · rename_i k
    have := nu_ne h
    refine ⟨by rw [pu, if_pos k, this.1], ?_, k, h⟩
    have q := List.length_pos_iff.2 this.2
    rw [List.length_tail] at q
    omega
  · exact absurd rfl h
/-- A fault that is no end lies ahead of the end. -/
theorem bad_lt {l : List Int} (h : de l ≠ 0) (h' : de l ≠ 131) : du l < l.length := by
  have a := ct_le isF l
  have b := nu_le (l1 l)
  have c := pu_le (l2 l)
  obtain ⟨x, y, z⟩ := l_len l
  rcases de_split l with ⟨h1, h2, h3⟩ | ⟨h1, h2, h3, h4⟩ | ⟨h1, h2, h3, h4⟩
  · have := List.length_pos_iff.2 (nu_ne h1).2
    omega
  · have := pu_pe h2
    omega
  · rcases ve_val (l3 l) with q | q | ⟨q, r⟩
    · omega
    · have : l3 l ≠ [] := fun r => by rw [r] at q; exact absurd q (by decide)
      have := List.length_pos_iff.2 this
      rw [vu, if_neg (by omega)] at h4
      omega
    · omega
theorem ct_more {p : Int → Bool} {a : List Int} (r : List Int) (h : ct p a = a.length) : a.length ≤ ct p (a ++ r) := by
  induction a with
  | nil => simp
  | cons c l ih =>
    rw [List.cons_append, ct, List.length_cons]
    rw [ct, List.length_cons] at h
    by_cases hc : p c = true
    · rw [if_pos hc] at h ⊢
      have := ih (by omega)
      omega
    · rw [if_neg hc] at h; omega
theorem num_more {a : List Int} (r : List Int) (h : nu a = a.length) (k : ne (a ++ r) = 0) : a.length ≤ nu (a ++ r) := by
  by_cases h0 : a = []
  · subst h0; simp
  · have hh := head_loc r h0
    have pl := List.length_pos_iff.2 h0
    unfold nu ne at *
    rw [hh] at k ⊢
    by_cases h1 : a.headD 0 = 42
    · simp only [if_pos h1] at h k ⊢; omega
    · simp only [if_neg h1] at h k ⊢
      by_cases h2 : ct isD a = 0
      · rw [if_pos h2] at h; omega
      · rw [if_neg h2] at h
        have h3 : ¬ ct isD (a ++ r) = 0 := fun q => h2 ((ct_nz r h0).1 q)
        rw [if_neg h3] at k ⊢
        by_cases h4 : 4096 < dN 0 a
        · rw [if_pos h4] at h; omega
        · rw [if_neg h4] at h
          by_cases h5 : 4096 < dN 0 (a ++ r)
          · rw [if_pos h5] at k; exact absurd k (by decide)
          · rw [if_neg h5]; exact ct_more r h
theorem prec_more {a : List Int} (r : List Int) (h : pu a = a.length) (k : pe (a ++ r) = 0) : a.length ≤ pu (a ++ r) := by
  by_cases h0 : a = []
  · subst h0; simp
  · have hh := head_loc r h0
    have ht := tail_loc r h0
    have pl := List.length_pos_iff.2 h0
    unfold pu pe at *
    rw [hh, ht] at k ⊢
    by_cases h1 : a.headD 0 = 46
    · simp only [if_pos h1] at h k ⊢
      have := num_more r (a := a.tail) (by rw [List.length_tail]; omega) k
      rw [List.length_tail] at this
      omega
    · simp only [if_neg h1] at h k ⊢; omega
/-- Where the whole has no fault of a number: an end of the beginning lies ahead of the whole's. -/
theorem end_more {a : List Int} (r : List Int) (h : de a = 131) (k1 : ne (l1 (a ++ r)) = 0) (k2 : pe (l2 (a ++ r)) = 0) : a.length + vu (l3 (a ++ r)) ≤ du (a ++ r) := by
  obtain ⟨e1, e2, e3, e4⟩ := end_all h
  have e5 : du (a ++ r) = ct isF (a ++ r) + nu (l1 (a ++ r)) + pu (l2 (a ++ r)) + vu (l3 (a ++ r)) := by
    rw [du, if_neg (by simp [k1]), if_neg (by simp [k2])]
  have la := ct_le isF a
  have lb := nu_le (l1 a)
  have lc := pu_le (l2 a)
  obtain ⟨x, y, z⟩ := l_len a
  rcases Nat.lt_or_ge (ct isF a) a.length with q | q
  · have a1 := ct_loc r q
    have a2 : l1 (a ++ r) = l1 a ++ r := by rw [l1, l1, a1, drop_loc r (by omega)]
    have n1 : l1 a ≠ [] := by intro z; rw [z] at x; simp at x; omega
    rcases Nat.lt_or_ge (nu (l1 a)) (l1 a).length with q2 | q2
    · obtain ⟨b1, b2, b3, b4⟩ := num_loc r n1 (.inr q2)
      have a3 : l2 (a ++ r) = l2 a ++ r := by rw [l2, l2, a2, b4, drop_loc r (by omega)]
      rw [a3] at k2
      have m := prec_more r (a := l2 a) (by rw [e4] at z; simp at z; omega) k2
      rw [← a3] at m
      rw [a2] at e5
      omega
    · rw [a2] at k1
      have m := num_more r (a := l1 a) (by omega) k1
      rw [← a2] at m
      omega
  · have m := ct_more r (p := isF) (a := a) (by omega)
    omega
theorem take_app (l : List Int) (k : Nat) : l.take k ++ l.drop k = l := List.take_append_drop k l
/-- A directive cut. -/
theorem dir_cut {l : List Int} (h : de l = 0) (k : Nat) (hk : k ≤ l.length) : (k < du l → de (l.take k) = 131 ∧ du (l.take k) = k) ∧ (du l ≤ k → de (l.take k) = 0 ∧ du (l.take k) = du l) := by
  have lt : (l.take k).length = k := by rw [List.length_take]; omega
  refine ⟨fun q => ?_, fun q => ?_⟩
  · by_cases e : de (l.take k) = 131
    · exact ⟨e, (end_all e).1.trans lt⟩
    · obtain ⟨_, _, c⟩ := dir_loc (l.drop k) e
      rw [take_app] at c
      have := du_le (l.take k)
      omega
  · by_cases e : de (l.take k) = 131
    · exfalso
      rcases de_split l with ⟨h1, h2, h3⟩ | ⟨h1, h2, h3, h4⟩ | ⟨h1, h2, h3, h4⟩
      · exact h1 (h2 ▸ h)
      · exact h2 (h3 ▸ h)
      · have m := end_more (l.drop k) e (by rw [take_app]; exact h1) (by rw [take_app]; exact h2)
        rw [take_app, lt, vu, if_pos (by omega)] at m
        omega
    · obtain ⟨a, _, c⟩ := dir_loc (l.drop k) e
      rw [take_app] at a c
      exact ⟨by omega, by omega⟩
/-- A fault's place: what stands ahead of it ends too early. -/
theorem dir_ahead {l : List Int} (h : de l ≠ 0) : de (l.take (du l)) = 131 ∧ du (l.take (du l)) = du l := by
  have lt : (l.take (du l)).length = du l := by rw [List.length_take]; have := du_le l; omega
  by_cases e : de (l.take (du l)) = 131
  · exact ⟨e, (end_all e).1.trans lt⟩
  · obtain ⟨a, _, c⟩ := dir_loc (l.drop (du l)) e
    rw [take_app] at a c
    have := bad_lt (l := l.take (du l)) (by omega) e
    omega
theorem ct_take {p : Int → Bool} {l : List Int} {k : Nat} (h : ct p l ≤ k) : ct p (l.take k) = ct p l := by
  induction l generalizing k with
  | nil => simp
  | cons c l ih =>
    cases k with
    | zero => rw [List.take_zero, ct]; omega
    | succ k =>
      rw [List.take_succ_cons, ct, ct]
      rw [ct] at h
      by_cases hc : p c = true
      · rw [if_pos hc] at h
        rw [if_pos hc, if_pos hc, ih (by omega)]
      · rw [if_neg hc, if_neg hc]
theorem dN_take (l : List Int) : ∀ n : Int, dN n (l.take (ct isD l)) = dN n l := by
  induction l with
  | nil => simp
  | cons c l ih =>
    intro n
    rw [ct]
    by_cases hc : isD c = true
    · rw [if_pos hc, List.take_succ_cons, dN, dN, if_pos hc, if_pos hc, ih]
    · rw [if_neg hc, List.take_zero, dN, dN, if_neg hc]
/-- A number too wide, its digits alone. -/
theorem wide_take {l : List Int} (h : ne l ≠ 0) : ne (l.take (ct isD l)) = 6 ∧ 1 ≤ ct isD l := by
  have e6 : ne l = 6 := (ne_val l).resolve_left h
  have c1 : ct isD (l.take (ct isD l)) = ct isD l := ct_take (Nat.le_refl _)
  have d1 := dN_take l 0
  unfold ne at h e6 ⊢
  by_cases h1 : l.headD 0 = 42
  · rw [if_pos h1] at h; exact absurd rfl h
  · rw [if_neg h1] at h
    by_cases h2 : ct isD l = 0
    · rw [if_pos h2] at h; exact absurd rfl h
    · rw [if_neg h2] at h
      have h5 : (l.take (ct isD l)).headD 0 = l.headD 0 := by
        cases l with
        | nil => rfl
        | cons c l =>
          obtain ⟨m, hm⟩ : ∃ m, ct isD (c :: l) = m + 1 := ⟨ct isD (c :: l) - 1, by omega⟩
          rw [hm]; rfl
      rw [h5, if_neg h1, c1, if_neg h2, d1]
      by_cases h3 : 4096 < dN 0 l
      · rw [if_pos h3]; exact ⟨rfl, by omega⟩
      · rw [if_neg h3] at h; exact absurd rfl h
theorem drop_take' (l : List Int) (i k : Nat) : (l.take (i + k)).drop i = (l.drop i).take k := by
  rw [List.drop_take]; congr 1; omega
/-- A fault's end: behind a number's digits, or one further. -/
def fe (l : List Int) (at_ : Nat) (e : Int) : Nat := at_ + (if e = 6 then ct isD (l.drop at_) else 1)
theorem dir_bad {l : List Int} (h : de l ≠ 0) (h' : de l ≠ 131) : de (l.take (fe l (du l) (de l))) ≠ 131 ∧ du l < fe l (du l) (de l) ∧ fe l (du l) (de l) ≤ l.length := by
  have bl := bad_lt h h'
  have la := ct_le isF l
  have lb := nu_le (l1 l)
  have lc := pu_le (l2 l)
  obtain ⟨x, y, z⟩ := l_len l
  rcases de_split l with ⟨h1, h2, h3⟩ | ⟨h1, h2, h3, h4⟩ | ⟨h1, h2, h3, h4⟩
  · have e6 : de l = 6 := by have := ne_val (l1 l); omega
    have w := wide_take h1
    have dl : l.drop (du l) = l1 l := by rw [h3, l1]
    have f : fe l (du l) (de l) = ct isF l + ct isD (l1 l) := by rw [fe, if_pos e6, dl, h3]
    have cl := ct_le isD (l1 l)
    rw [f]
    refine ⟨?_, by omega, by omega⟩
    have c1 : ct isF (l.take (ct isF l + ct isD (l1 l))) = ct isF l := ct_take (by omega)
    have q1 : l1 (l.take (ct isF l + ct isD (l1 l))) = (l1 l).take (ct isD (l1 l)) := by
      rw [l1, c1, drop_take']; rfl
    have : de (l.take (ct isF l + ct isD (l1 l))) = 6 := by rw [de, q1, w.1, if_pos (by decide)]
    omega
  · have e6 : de l = 6 := by have := pe_val (l2 l); omega
    obtain ⟨p1, p2, p3, p4⟩ := pu_pe h2
    have w := wide_take p4
    have dl : l.drop (du l) = (l2 l).tail := by
      rw [h4, p1, l2, l1, ← List.drop_one, List.drop_drop, List.drop_drop, Nat.add_assoc]
    have f : fe l (du l) (de l) = ct isF l + (nu (l1 l) + (1 + ct isD (l2 l).tail)) := by rw [fe, if_pos e6, dl, h4, p1]; omega
    have cl := ct_le isD (l2 l).tail
    rw [List.length_tail] at cl
    rw [f]
    refine ⟨?_, by omega, by omega⟩
    generalize hm : nu (l1 l) + (1 + ct isD (l2 l).tail) = m
    have c1 : ct isF (l.take (ct isF l + m)) = ct isF l := ct_take (by omega)
    have q1 : l1 (l.take (ct isF l + m)) = (l1 l).take m := by
      rw [l1, c1, drop_take']; rfl
    have lx : ((l1 l).take m).length = m := by rw [List.length_take]; omega
    have nx' : (l1 l).take m ≠ [] := fun q => by rw [q] at lx; simp at lx; omega
    have cond : ne ((l1 l).take m) ≠ 0 ∨ nu ((l1 l).take m) < ((l1 l).take m).length := by
      rcases Nat.lt_or_ge (nu ((l1 l).take m)) ((l1 l).take m).length with q | q
      · exact .inr q
      · have := nu_le ((l1 l).take m)
        have t := num_more ((l1 l).drop m) (a := (l1 l).take m) (by omega) (by rw [take_app]; exact h1)
        rw [take_app] at t
        omega
    obtain ⟨b1, _, _, b4⟩ := num_loc ((l1 l).drop m) nx' cond
    rw [take_app] at b1 b4
    have q2 : l2 (l.take (ct isF l + m)) = (l2 l).take (1 + ct isD (l2 l).tail) := by
      rw [l2, q1, ← b4, ← hm, drop_take']; rfl
    have q3 : pe (l2 (l.take (ct isF l + m))) = 6 := by
      rw [q2]
      cases hl : l2 l with
      | nil => rw [hl] at p2; simp at p2
      | cons c t =>
        rw [hl] at p3 w
        simp only [List.headD_cons, List.tail_cons] at p3 w
        rw [Nat.add_comm, List.tail_cons, List.take_succ_cons, pe, List.headD_cons, if_pos p3, List.tail_cons]
        exact w.1
    have : de (l.take (ct isF l + m)) = 6 := by
      rw [de, q1, ← b1, h1, q3, if_neg (by decide), if_pos (by decide)]
    omega
  · have e1 : de l = 130 := by rcases ve_val (l3 l) with q | q | ⟨q, _⟩ <;> omega
    have f : fe l (du l) (de l) = du l + 1 := by rw [fe, if_neg (by omega)]
    rw [f]
    refine ⟨fun e => ?_, by omega, by omega⟩
    have m := end_more (l.drop (du l + 1)) e (by rw [take_app]; exact h1) (by rw [take_app]; exact h2)
    rw [take_app, List.length_take] at m
    omega
end Dr
end Go.Proofs.YtdfnpoojbnoeeaaDoor
