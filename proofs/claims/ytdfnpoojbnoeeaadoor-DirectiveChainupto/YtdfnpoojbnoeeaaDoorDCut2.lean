/-
  A FORMAT CUT: pieces and whole formats.
-/
import Derived.Test.YtdfnpoojbnoeeaaDoorDCut
namespace Go.Proofs.YtdfnpoojbnoeeaaDoor
namespace Dr

theorem tail_take (l : List Int) (k : Nat) : (l.take (k + 1)).tail = l.tail.take k := by cases l <;> simp
theorem head_take {l : List Int} {k : Nat} (h : 0 < k) : (l.take k).headD 0 = l.headD 0 := by
  cases l with
  | nil => simp
  | cons c l => cases k with
    | zero => omega
    | succ k => rfl
theorem head_take' {l : List Int} (k : Nat) (h : l.headD 0 ≠ 37) : (l.take k).headD 0 ≠ 37 := by
  cases k with
  | zero => simp
  | succ k => rw [head_take (by omega)]; exact h
theorem ct_full {p : Int → Bool} {l : List Int} {k : Nat} (h : k ≤ ct p l) : ct p (l.take k) = k := by
  induction l generalizing k with
  | nil => simp [ct] at h ⊢; omega
  | cons c l ih =>
    cases k with
    | zero => rfl
    | succ k =>
      rw [ct] at h
      by_cases hc : p c = true
      · rw [if_pos hc] at h
        rw [List.take_succ_cons, ct, if_pos hc, ih (by omega)]
      · rw [if_neg hc] at h; omega
/-- A piece that is taken, cut behind its end or inside. -/
theorem piece_cut {l : List Int} (h : qe l = 0) (k : Nat) (k0 : 0 < k) (hk : k ≤ l.length) : (qu l ≤ k → qe (l.take k) = 0 ∧ qu (l.take k) = qu l) ∧ (k < qu l → (qe (l.take k) = 0 ∨ qe (l.take k) = 131) ∧ qu (l.take k) = k) := by
  obtain ⟨m, rfl⟩ : ∃ m, k = m + 1 := ⟨k - 1, by omega⟩
  have hh := head_take (l := l) k0
  have ht := tail_take l m
  unfold qe qu at *
  rw [hh, ht]
  by_cases h1 : l.headD 0 ≠ 37
  · simp only [if_pos h1] at h ⊢
    exact ⟨fun q => ⟨trivial, ct_take q⟩, fun q => ⟨.inl trivial, ct_full (by omega)⟩⟩
  · simp only [if_neg h1] at h ⊢
    by_cases h2 : l.tail.headD 0 = 37
    · simp only [if_pos h2] at h ⊢
      refine ⟨fun q => ?_, fun q => ?_⟩
      · rw [head_take (by omega), if_pos h2, if_pos h2]; exact ⟨rfl, rfl⟩
      · have : m = 0 := by omega
        subst this
        rw [List.take_zero]
        exact ⟨.inr (by decide), by decide⟩
    · simp only [if_neg h2] at h ⊢
      have h3 := head_take' m h2
      simp only [if_neg h3]
      have c := dir_cut h m (by rw [List.length_tail]; omega)
      refine ⟨fun q => ?_, fun q => ?_⟩
      · have := c.2 (by omega); exact ⟨this.1, by omega⟩
      · have := c.1 (by omega); exact ⟨.inr this.1, by omega⟩
/-- A piece with a fault. -/
theorem piece_bad {l : List Int} (h : qe l ≠ 0) : l.headD 0 = 37 ∧ l.tail.headD 0 ≠ 37 ∧ qe l = de l.tail ∧ qu l = 1 + du l.tail := by
  unfold qe qu at *
  by_cases h1 : l.headD 0 ≠ 37
  · rw [if_pos h1] at h; exact absurd rfl h
  · rw [if_neg h1] at h
    by_cases h2 : l.tail.headD 0 = 37
    · rw [if_pos h2] at h; exact absurd rfl h
    · refine ⟨by omega, h2, ?_, ?_⟩
      · rw [if_neg h1, if_neg h2]
      · rw [if_neg h1, if_neg h2]
theorem qe_dir {l : List Int} (h1 : l.headD 0 = 37) (h2 : l.tail.headD 0 ≠ 37) : qe l = de l.tail ∧ qu l = 1 + du l.tail := by
  unfold qe qu
  rw [if_neg (fun z => z h1), if_neg h2, if_neg (fun z => z h1), if_neg h2]
  exact ⟨rfl, rfl⟩
theorem piece_ahead {l : List Int} (h : qe l ≠ 0) : qe (l.take (qu l)) = 131 ∧ qu (l.take (qu l)) = qu l := by
  obtain ⟨h1, h2, h3, h4⟩ := piece_bad h
  have hh := head_take (l := l) (k := du l.tail + 1) (by omega)
  have ht := tail_take l (du l.tail)
  have a := dir_ahead (l := l.tail) (by rw [← h3]; exact h)
  rw [h4, Nat.add_comm 1]
  obtain ⟨e1, e2⟩ := qe_dir (l := l.take (du l.tail + 1)) (by rw [hh]; exact h1) (by rw [ht]; exact head_take' _ h2)
  rw [e1, e2, ht]
  exact ⟨a.1, by omega⟩
theorem piece_end {l : List Int} (h : qe l = 131) : qu l = l.length := by
  obtain ⟨h1, h2, h3, h4⟩ := piece_bad (l := l) (by rw [h]; decide)
  have := (end_all (l := l.tail) (by rw [← h3]; exact h)).1
  have p := headD_len (by decide) h1
  rw [List.length_tail] at this
  omega
theorem piece_behind {l : List Int} (h : qe l ≠ 0) (h' : qe l ≠ 131) (o : List Int) : qe (l.take (fe l (qu l) (qe l)) ++ o) = qe l ∧ qu (l.take (fe l (qu l) (qe l)) ++ o) = qu l ∧ qu l < fe l (qu l) (qe l) ∧ fe l (qu l) (qe l) ≤ l.length := by
  obtain ⟨h1, h2, h3, h4⟩ := piece_bad h
  have p := headD_len (by decide) h1
  have hl : l ≠ [] := fun q => by rw [q] at p; simp at p
  obtain ⟨b1, b2, b3⟩ := dir_bad (l := l.tail) (by rw [← h3]; exact h) (by rw [← h3]; exact h')
  have f : fe l (qu l) (qe l) = fe l.tail (du l.tail) (de l.tail) + 1 := by
    rw [fe, fe, h3, h4]
    have : l.drop (1 + du l.tail) = l.tail.drop (du l.tail) := by rw [← List.drop_one, List.drop_drop]
    rw [this]
    omega
  have hh := head_take (l := l) (k := fe l.tail (du l.tail) (de l.tail) + 1) (by omega)
  have ht := tail_take l (fe l.tail (du l.tail) (de l.tail))
  rw [List.length_tail] at b3
  rw [f]
  generalize fe l.tail (du l.tail) (de l.tail) = m at *
  obtain ⟨e1, e2⟩ := qe_dir (l := l.take (m + 1)) (by rw [hh]; exact h1) (by rw [ht]; exact head_take' _ h2)
  have nn : l.take (m + 1) ≠ [] := fun q => by
    have : (l.take (m + 1)).length = 0 := by rw [q]; rfl
    rw [List.length_take] at this
    omega
  have hx : (l.take (m + 1)).headD 0 = 37 := by rw [hh]; exact h1
  have k1 : qe (l.take (m + 1)) ≠ 131 := by rw [e1, ht]; exact b1
  obtain ⟨c1, _, c3⟩ := piece_loc o nn k1 (fun q => absurd hx q)
  obtain ⟨d1, _, d3⟩ := piece_loc (l.drop (m + 1)) nn k1 (fun q => absurd hx q)
  rw [take_app] at d1 d3
  exact ⟨by omega, by omega, by omega, by omega⟩

/-- A format that is taken, cut anywhere. -/
theorem fmt_cut : ∀ (n : Nat) (l : List Int) (k : Nat), l.length ≤ n → k ≤ l.length → (prs l).2.2 = 0 → (prs (l.take k)).2.2 = 0 ∨ prs (l.take k) = ([], k, 131) := by
  intro n
  induction n with
  | zero =>
    intro l k hl hk _
    have : k = 0 := by omega
    subst this
    left; rw [List.take_zero, prs_nil]
  | succ n ih =>
    intro l k hl hk ok
    by_cases k0 : k = 0
    · subst k0; left; rw [List.take_zero, prs_nil]
    · have h0 : l ≠ [] := fun q => by rw [q] at hk; simp at hk; omega
      have he : qe l = 0 := by
        by_cases q : qe l = 0
        · exact q
        · rw [prs_err h0 q] at ok; exact ok
      have hr : (prs (l.drop (qu l))).2.2 = 0 := by
        rw [prs_cons h0 he] at ok
        split at ok <;> rename_i z
        · exact z
        · exact ok
      have up := qu_pos h0
      have lk : (l.take k).length = k := by rw [List.length_take]; omega
      have nk' : l.take k ≠ [] := fun q => by rw [q] at lk; simp at lk; omega
      obtain ⟨c1, c2⟩ := piece_cut he k (by omega) hk
      rcases Nat.lt_or_ge k (qu l) with q | q
      · obtain ⟨d1, d2⟩ := c2 q
        rcases d1 with d1 | d1
        · left
          rw [prs_cons nk' d1, d2, show (l.take k).drop k = [] from List.drop_of_length_le (by omega), prs_nil, if_pos rfl]
        · right
          rw [prs_err nk' (by rw [d1]; decide), d1, d2]
      · obtain ⟨d1, d2⟩ := c1 q
        have e : (l.take k).drop (qu l) = (l.drop (qu l)).take (k - qu l) := by rw [List.drop_take]
        rw [prs_cons nk' d1, d2, e]
        rcases ih (l.drop (qu l)) (k - qu l) (by rw [List.length_drop]; omega) (by rw [List.length_drop]; omega) hr with g | g
        · left; rw [if_pos g]
        · right
          rw [g, if_neg (by show ¬ (131 : Int) = 0; decide)]
          simp only
          rw [show qu l + (k - qu l) = k by omega]
/-- A format with a fault. -/
theorem fmt_bad : ∀ (n : Nat) (l : List Int), l.length ≤ n → (prs l).2.2 ≠ 0 → (prs l).2.1 ≤ l.length ∧ prs (l.take (prs l).2.1) = ([], (prs l).2.1, 131) ∧ ((prs l).2.2 = 131 → (prs l).2.1 = l.length) ∧
    ((prs l).2.2 ≠ 131 → (prs l).2.1 < fe l (prs l).2.1 (prs l).2.2 ∧ fe l (prs l).2.1 (prs l).2.2 ≤ l.length ∧ ∀ o, prs (l.take (fe l (prs l).2.1 (prs l).2.2) ++ o) = ([], (prs l).2.1, (prs l).2.2)) := by
  intro n
  induction n with
  | zero =>
    intro l hl h
    have : l = [] := List.eq_nil_of_length_eq_zero (by omega)
    rw [this, prs_nil] at h
    exact absurd rfl h
  | succ n ih =>
    intro l hl h
    by_cases h0 : l = []
    · rw [h0, prs_nil] at h; exact absurd rfl h
    · have up := qu_pos h0
      have ul := qu_le h0
      by_cases he : qe l = 0
      · have hr : (prs (l.drop (qu l))).2.2 ≠ 0 := by
          rw [prs_cons h0 he] at h
          split at h <;> rename_i z
          · exact absurd rfl h
          · exact z
        have pe' : prs l = ([], qu l + (prs (l.drop (qu l))).2.1, (prs (l.drop (qu l))).2.2) := by rw [prs_cons h0 he, if_neg hr]
        obtain ⟨i1, i2, i3, i4⟩ := ih (l.drop (qu l)) (by rw [List.length_drop]; omega) hr
        rw [pe']
        simp only
        have fe' : fe l (qu l + (prs (l.drop (qu l))).2.1) (prs (l.drop (qu l))).2.2 = qu l + fe (l.drop (qu l)) (prs (l.drop (qu l))).2.1 (prs (l.drop (qu l))).2.2 := by
          rw [fe, fe, List.drop_drop]; omega
        rw [fe']
        generalize hq : prs (l.drop (qu l)) = Q at *
        rw [List.length_drop] at i1 i3 i4
        have step : ∀ k o, qu l ≤ k → k ≤ l.length → (o = [] ∨ qu l < k) → qe (l.take k ++ o) = 0 ∧ qu (l.take k ++ o) = qu l ∧ l.take k ++ o ≠ [] ∧ (l.take k ++ o).drop (qu l) = (l.drop (qu l)).take (k - qu l) ++ o := by
          intro k o k1 k2 k3
          have lk : (l.take k).length = k := by rw [List.length_take]; omega
          have nk' : l.take k ≠ [] := fun q => by rw [q] at lk; simp at lk; omega
          obtain ⟨d1, d2⟩ := (piece_cut he k (by omega) k2).1 k1
          have e : (l.take k).drop (qu l) = (l.drop (qu l)).take (k - qu l) := by rw [List.drop_take]
          have ed : (l.take k ++ o).drop (qu l) = (l.drop (qu l)).take (k - qu l) ++ o := by rw [drop_loc o (by omega), e]
          rcases k3 with k3 | k3
          · subst k3; rw [List.append_nil] at ed ⊢; exact ⟨d1, d2, nk', ed⟩
          · obtain ⟨c1, _, c3⟩ := piece_loc o nk' (by rw [d1]; decide) (fun q => by
              have : qu (l.take k) = ct isX (l.take k) := by rw [qu, if_pos q]
              omega)
            exact ⟨by omega, by omega, fun q => nk' (List.append_eq_nil_iff.1 q).1, ed⟩
        refine ⟨by omega, ?_, fun q => by have := i3 q; omega, fun q => ?_⟩
        · obtain ⟨s1, s2, s3, s4⟩ := step (qu l + Q.2.1) [] (by omega) (by omega) (.inl rfl)
          rw [List.append_nil] at s1 s2 s3 s4
          rw [prs_cons s3 s1, s2, s4, show qu l + Q.2.1 - qu l = Q.2.1 by omega, List.append_nil, i2, if_neg (by show ¬ (131 : Int) = 0; decide)]
        · obtain ⟨j1, j2, j3⟩ := i4 q
          refine ⟨by omega, by omega, fun o => ?_⟩
          obtain ⟨s1, s2, s3, s4⟩ := step (qu l + fe (l.drop (qu l)) Q.2.1 Q.2.2) o (by omega) (by omega) (.inr (by omega))
          rw [prs_cons s3 s1, s2, s4, show qu l + fe (l.drop (qu l)) Q.2.1 Q.2.2 - qu l = fe (l.drop (qu l)) Q.2.1 Q.2.2 by omega, j3, if_neg hr]
      · rw [prs_err h0 he]
        simp only
        obtain ⟨a1, a2⟩ := piece_ahead he
        have lk : (l.take (qu l)).length = qu l := by rw [List.length_take]; omega
        have nk' : l.take (qu l) ≠ [] := fun q => by rw [q] at lk; simp at lk; omega
        refine ⟨ul, ?_, fun q => piece_end q, fun q => ?_⟩
        · rw [prs_err nk' (by rw [a1]; decide), a1, a2]
        · obtain ⟨_, _, c3, c4⟩ := piece_behind he q []
          refine ⟨c3, c4, fun o => ?_⟩
          obtain ⟨c1, c2, _, _⟩ := piece_behind he q o
          have nn : l.take (fe l (qu l) (qe l)) ++ o ≠ [] := fun z => by
            have : (l.take (fe l (qu l) (qe l))).length = 0 := by rw [(List.append_eq_nil_iff.1 z).1]; rfl
            rw [List.length_take] at this
            omega
          rw [prs_err nn (by rw [c1]; exact he), c1, c2]
end Dr
end Go.Proofs.YtdfnpoojbnoeeaaDoor
