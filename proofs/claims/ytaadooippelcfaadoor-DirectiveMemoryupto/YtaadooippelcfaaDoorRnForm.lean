/-
  WHAT Parse READS is in form.
-/
import Derived.Test.YtaadooippelcfaaDoorDBackN
namespace Go.Proofs.YtaadooippelcfaaDoor
namespace Dr

theorem fS_le {s : Nat} (l : List Int) (h : s < 2 ^ 5) : fS s l < 2 ^ 5 := by
  induction l generalizing s with
  | nil => exact h
  | cons c l ih =>
    rw [fS]
    split
    · refine ih (Nat.or_lt_two_pow h ?_)
      have a := idx_lt marks c
      have b : marks.length = 5 := rfl
      rename_i k
      have k' : 0 ≤ idx marks c := by simpa [isF] using k
      exact Nat.pow_lt_pow_right (by omega) (by omega)
    · exact h
theorem dN_ge {n : Int} (l : List Int) (h0 : 0 ≤ n) (h : n ≤ 4097) : n ≤ dN n l := by
  induction l generalizing n with
  | nil => exact Int.le_refl _
  | cons c l ih =>
    rw [dN]
    split
    · rename_i k
      have k' := isD_iff.1 k
      have := ih (n := min (10 * n + (c - 48)) 4097) (by omega) (by omega)
      omega
    · exact Int.le_refl _
theorem dN_one {l : List Int} (h : isD (l.headD 0) = true) (h2 : l.headD 0 ≠ 48) : 1 ≤ dN 0 l := by
  cases l with
  | nil => simp [isD] at h
  | cons c l =>
    simp only [List.headD_cons] at h h2
    have k' := isD_iff.1 h
    rw [dN, if_pos h]
    have := dN_ge (n := min (10 * 0 + (c - 48)) 4097) l (by omega) (by omega)
    omega
theorem ct_head {p : Int → Bool} {l : List Int} (h : ct p l ≠ 0) : p (l.headD 0) = true := by
  cases e : p (l.headD 0) with
  | true => rfl
  | false => exact absurd (ct_zero e) h
theorem ct_next {p : Int → Bool} (hp : p 0 = false) (l : List Int) : p ((l.drop (ct p l)).headD 0) = false := by
  induction l with
  | nil => simpa [ct] using hp
  | cons c l ih =>
    rw [ct]
    split
    · rw [List.drop_succ_cons]; exact ih
    · rename_i k
      simpa using k
theorem num_in {l : List Int} (h : ne l = 0) : num (nk l) (nv l) 0 ∧ (l.headD 0 ≠ 48 → num (nk l) (nv l) 1) := by
  unfold ne at h
  unfold nk nv
  by_cases h1 : l.headD 0 = 42
  · simp only [if_pos h1]; exact ⟨.inl ⟨.inr rfl, rfl⟩, fun _ => .inl ⟨.inr rfl, rfl⟩⟩
  · simp only [if_neg h1] at h ⊢
    by_cases h2 : ct isD l = 0
    · simp only [if_pos h2]; exact ⟨.inl ⟨.inl rfl, rfl⟩, fun _ => .inl ⟨.inl rfl, rfl⟩⟩
    · simp only [if_neg h2] at h ⊢
      by_cases h3 : 4096 < dN 0 l
      · simp [if_pos h3] at h
      · simp only [if_neg h3]
        have a := dN_ge (n := 0) l (by omega) (by omega)
        exact ⟨.inr ⟨rfl, a, by omega⟩, fun k => .inr ⟨rfl, dN_one (ct_head h2) k, by omega⟩⟩
theorem take_ct {p : Int → Bool} (l : List Int) : ∀ x ∈ l.take (ct p l), p x = true := by
  induction l with
  | nil => simp [ct]
  | cons c l ih =>
    rw [ct]
    split
    · rename_i k
      intro x hx
      rw [List.take_succ_cons] at hx
      rcases List.mem_cons.1 hx with rfl | hx
      · exact k
      · exact ih x hx
    · simp
theorem idx_none {l : List Int} {c : Int} (h : ∀ x ∈ l, x ≠ c) : idx l c < 0 := by
  induction l with
  | nil => simp [idx]
  | cons x l ih =>
    have a := ih (fun y hy => h y (by simp [hy]))
    rw [idx, if_neg (h x (by simp)), if_pos a]; decide
theorem dp_ok {l : List Int} (h : de l = 0) : isR (dp l) := by
  have h0 : ne (l1 l) = 0 ∧ pe (l2 l) = 0 ∧ ve (l3 l) = 0 := by
    rw [de] at h
    split at h
    · contradiction
    · rename_i a
      split at h
      · contradiction
      · rename_i b
        exact ⟨by simpa using a, by simpa using b, h⟩
  obtain ⟨e1, e2, e3⟩ := h0
  rw [dp, if_pos h]
  have vb : 0 ≤ idx verbs ((l3 l).headD 0) := by
    rw [ve] at e3
    split at e3
    · simp at e3
    · split at e3
      · simp at e3
      · omega
  have fb := fS_le (s := 0) l (by decide)
  have hd : (l1 l).headD 0 ≠ 48 := by
    have := ct_next (p := isF) (by decide) l
    intro q
    rw [← l1, q] at this
    exact absurd this (by decide)
  refine ⟨by show 0 ≤ idx verbs (vv (l3 l)); rw [vv, if_pos e3]; exact vb, rfl, by show (0 : Int) ≤ (fS 0 l : Int); omega, by show (fS 0 l : Int) ≤ 31; omega, (num_in e1).2 hd, ?_⟩
  show num (pk (l2 l)) (pv (l2 l)) 0
  unfold pk pv
  rw [pe] at e2
  by_cases q : (l2 l).headD 0 = 46
  · rw [if_pos q] at e2
    rw [if_pos q, if_pos q]
    have n := (num_in e2).1
    split
    · rename_i z
      have : nv (l2 l).tail = 0 := by
        rcases n with ⟨_, n⟩ | ⟨n, _⟩
        · exact n
        · rw [z.2] at n; exact absurd n (by decide)
      rw [this]; exact .inr ⟨rfl, by omega, by omega⟩
    · exact n
  · rw [if_neg q, if_neg q]; exact .inl ⟨.inl rfl, rfl⟩
theorem qp_ok {l : List Int} (hl : l ≠ []) (h : qe l = 0) : ok (qp l) := by
  unfold qp
  unfold qe at h
  by_cases h1 : l.headD 0 ≠ 37
  · rw [if_pos h1]
    left
    refine ⟨?_, rfl, rfl, rfl, rfl, rfl, rfl, ?_⟩
    · intro q
      have q' := congrArg List.length q
      rw [List.length_take] at q'
      have a : l.length ≠ 0 := by simpa using hl
      have b : ct isX l ≠ 0 := by
        cases l with
        | nil => exact absurd rfl hl
        | cons c l =>
          rw [ct, if_pos (by simp only [List.headD_cons] at h1; simpa [isX] using h1)]; omega
      simp only [List.length_nil] at q'
      omega
    · exact idx_none (fun x hx => by simpa [isX] using take_ct (p := isX) l x hx)
  · rw [if_neg h1] at h ⊢
    by_cases h2 : l.tail.headD 0 = 37
    · rw [if_pos h2]; right; left; exact ⟨rfl, rfl, rfl, rfl, rfl, rfl, rfl⟩
    · rw [if_neg h2] at h ⊢
      right; right
      exact dp_ok h
theorem prs_form : ∀ (n : Nat) (l : List Int), l.length ≤ n → ∀ p ∈ (prs l).1, ok p := by
  intro n
  induction n with
  | zero =>
    intro l hl p hp
    have : l = [] := List.eq_nil_of_length_eq_zero (by omega)
    subst this
    rw [prs_nil] at hp; simp at hp
  | succ n ih =>
    intro l hl p hp
    by_cases h0 : l = []
    · subst h0; rw [prs_nil] at hp; simp at hp
    · by_cases he : qe l = 0
      · rw [prs_cons h0 he] at hp
        split at hp
        · rcases List.mem_cons.1 hp with rfl | hp
          · exact qp_ok h0 he
          · have := qu_pos h0
            exact ih (l.drop (qu l)) (by rw [List.length_drop]; omega) p hp
        · simp at hp
      · rw [prs_err h0 he] at hp; simp at hp
theorem prs_sub : ∀ (n : Nat) (l : List Int), l.length ≤ n → ∀ p ∈ (prs l).1, ∀ x ∈ p.t, x ∈ l := by
  intro n
  induction n with
  | zero =>
    intro l hl p hp
    have : l = [] := List.eq_nil_of_length_eq_zero (by omega)
    subst this
    rw [prs_nil] at hp; simp at hp
  | succ n ih =>
    intro l hl p hp
    by_cases h0 : l = []
    · subst h0; rw [prs_nil] at hp; simp at hp
    · by_cases he : qe l = 0
      · rw [prs_cons h0 he] at hp
        split at hp
        · rcases List.mem_cons.1 hp with rfl | hp
          · intro x hx
            rw [qp] at hx
            split at hx
            · exact List.mem_of_mem_take hx
            · split at hx
              · simp at hx
              · rw [dp] at hx
                split at hx <;> simp [Pc.no] at hx
          · have := qu_pos h0
            intro x hx
            exact List.mem_of_mem_drop (ih (l.drop (qu l)) (by rw [List.length_drop]; omega) p hp x hx)
        · simp at hp
      · rw [prs_err h0 he] at hp; simp at hp
theorem prs_lng : ∀ (n : Nat) (l : List Int), l.length ≤ n → (prs l).1.length ≤ l.length := by
  intro n
  induction n with
  | zero =>
    intro l hl
    have : l = [] := List.eq_nil_of_length_eq_zero (by omega)
    subst this
    rw [prs_nil]; simp
  | succ n ih =>
    intro l hl
    by_cases h0 : l = []
    · subst h0; rw [prs_nil]; simp
    · by_cases he : qe l = 0
      · rw [prs_cons h0 he]
        split
        · have := qu_pos h0
          have := qu_le h0
          have := ih (l.drop (qu l)) (by rw [List.length_drop]; omega)
          rw [List.length_drop] at this
          rw [List.length_cons]
          omega
        · simp
      · rw [prs_err h0 he]; simp
end Dr
end Go.Proofs.YtaadooippelcfaaDoor
