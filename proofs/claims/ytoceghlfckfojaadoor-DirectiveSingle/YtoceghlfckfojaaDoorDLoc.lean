/-
  WHAT STANDS BEHIND A PIECE changes nothing; two formats one behind the other.
-/
import Derived.Test.YtoceghlfckfojaaDoorDBackN
namespace Go.Proofs.YtoceghlfckfojaaDoor
namespace Dr

theorem ct_loc {p : Int → Bool} {l : List Int} (r : List Int) (h : ct p l < l.length) : ct p (l ++ r) = ct p l := by
  induction l with
  | nil => simp [ct] at h
  | cons c l ih =>
    rw [List.cons_append, ct, ct]
    rw [ct, List.length_cons] at h
    by_cases hc : p c = true
    · rw [if_pos hc] at h ⊢
      rw [if_pos hc, ih (by omega)]
    · rw [if_neg hc, if_neg hc]
theorem fS_loc {s : Nat} {l : List Int} (r : List Int) (h : ct isF l < l.length) : fS s (l ++ r) = fS s l := by
  induction l generalizing s with
  | nil => simp [ct] at h
  | cons c l ih =>
    rw [List.cons_append, fS, fS]
    rw [ct, List.length_cons] at h
    by_cases hc : isF c = true
    · rw [if_pos hc] at h ⊢
      rw [if_pos hc, ih (by omega)]
    · rw [if_neg hc, if_neg hc]
theorem dN_loc {n : Int} {l : List Int} (r : List Int) (h : ct isD l < l.length) : dN n (l ++ r) = dN n l := by
  induction l generalizing n with
  | nil => simp [ct] at h
  | cons c l ih =>
    rw [List.cons_append, dN, dN]
    rw [ct, List.length_cons] at h
    by_cases hc : isD c = true
    · rw [if_pos hc] at h ⊢
      rw [if_pos hc, ih (by omega)]
    · rw [if_neg hc, if_neg hc]
theorem dN_cap (r : List Int) : dN 4097 r = 4097 := by
  induction r with
  | nil => rfl
  | cons c l ih =>
    rw [dN]
    by_cases hc : isD c = true
    · have := isD_iff.1 hc
      rw [if_pos hc, Int.min_eq_right (by omega), ih]
    · rw [if_neg hc]
theorem dN_big {n : Int} {l : List Int} (r : List Int) (hn : n ≤ 4097) (h : 4096 < dN n l) : 4096 < dN n (l ++ r) := by
  induction l generalizing n with
  | nil =>
    have e : n = 4097 := by simp [dN] at h; omega
    rw [List.nil_append, e, dN_cap]; omega
  | cons c l ih =>
    rw [List.cons_append, dN]
    rw [dN] at h
    by_cases hc : isD c = true
    · rw [if_pos hc] at h ⊢
      exact ih (by omega) h
    · rw [if_neg hc] at h ⊢
      exact h
theorem head_loc {l : List Int} (r : List Int) (h : l ≠ []) : (l ++ r).headD 0 = l.headD 0 := by
  cases l with
  | nil => exact absurd rfl h
  | cons c l => rfl
theorem ct_nz {l : List Int} (r : List Int) {p : Int → Bool} (h : l ≠ []) : ct p (l ++ r) = 0 ↔ ct p l = 0 := by
  cases l with
  | nil => exact absurd rfl h
  | cons c l =>
    rw [List.cons_append, ct, ct]
    by_cases hc : p c = true
    · rw [if_pos hc, if_pos hc]; omega
    · rw [if_neg hc, if_neg hc]
theorem num_loc {l : List Int} (r : List Int) (h : l ≠ []) (k : ne l ≠ 0 ∨ nu l < l.length) : ne (l ++ r) = ne l ∧ nk (l ++ r) = nk l ∧ nv (l ++ r) = nv l ∧ nu (l ++ r) = nu l := by
  have hh := head_loc r h
  unfold ne nk nv nu at *
  rw [hh]
  by_cases h1 : l.headD 0 = 42
  · simp only [if_pos h1]; exact ⟨trivial, trivial, trivial, trivial⟩
  · simp only [if_neg h1] at k ⊢
    by_cases h2 : ct isD l = 0
    · have h3 := (ct_nz r h).2 h2
      simp only [if_pos h2, if_pos h3]; exact ⟨trivial, trivial, trivial, trivial⟩
    · have h3 : ¬ ct isD (l ++ r) = 0 := fun q => h2 ((ct_nz r h).1 q)
      simp only [if_neg h2, if_neg h3] at k ⊢
      by_cases h4 : 4096 < dN 0 l
      · have h5 := dN_big r (by omega) h4
        simp only [if_pos h4, if_pos h5]; exact ⟨trivial, trivial, trivial, trivial⟩
      · simp only [if_neg h4] at k ⊢
        have h6 : ct isD l < l.length := by
          rcases k with k | k
          · simp at k
          · exact k
        rw [dN_loc r h6, ct_loc r h6]
        simp only [if_neg h4]
        exact ⟨trivial, trivial, trivial, trivial⟩
theorem tail_loc {l : List Int} (r : List Int) (h : l ≠ []) : (l ++ r).tail = l.tail ++ r := by
  cases l with
  | nil => exact absurd rfl h
  | cons c l => rfl
theorem prec_loc {l : List Int} (r : List Int) (h : l ≠ []) (k : pe l ≠ 0 ∨ pu l < l.length) : pe (l ++ r) = pe l ∧ pk (l ++ r) = pk l ∧ pv (l ++ r) = pv l ∧ pu (l ++ r) = pu l := by
  have hh := head_loc r h
  have ht := tail_loc r h
  have hl := List.length_pos_iff.2 h
  unfold pe pk pv pu at *
  rw [hh, ht]
  by_cases h1 : l.headD 0 = 46
  · simp only [if_pos h1] at k ⊢
    have h2 : l.tail ≠ [] := by
      intro q
      rw [q] at k
      have e : l.length = 1 := by
        have := congrArg List.length q
        rw [List.length_tail] at this
        simp at this
        omega
      rcases k with k | k
      · exact k (by decide)
      · omega
    obtain ⟨a, b, c, d⟩ := num_loc (l := l.tail) r h2 (by
      rcases k with k | k
      · exact .inl k
      · right; rw [List.length_tail]; omega)
    rw [a, b, c, d]
    exact ⟨rfl, rfl, rfl, rfl⟩
  · simp only [if_neg h1]; exact ⟨trivial, trivial, trivial, trivial⟩
theorem verb_loc {l : List Int} (r : List Int) (h : l ≠ []) : ve (l ++ r) = ve l ∧ vv (l ++ r) = vv l ∧ vu (l ++ r) = vu l := by
  have hh := head_loc r h
  have hn : ¬ l ++ r = [] := fun q => h (List.append_eq_nil_iff.1 q).1
  have e : ve (l ++ r) = ve l := by rw [ve, ve, if_neg hn, if_neg h, hh]
  exact ⟨e, by rw [vv, vv, e, hh], by rw [vu, vu, e]⟩
theorem drop_loc {l : List Int} (r : List Int) {k : Nat} (h : k ≤ l.length) : (l ++ r).drop k = l.drop k ++ r := by
  rw [List.drop_append_of_le_length h]
theorem ends_nil {l : List Int} (h : l = []) : ne l = 0 ∧ pe l = 0 ∧ ve l = 131 ∧ nu l = 0 ∧ pu l = 0 := by
  subst h; decide
/-- A directive that does not end too early hangs on nothing behind it. -/
theorem dir_loc {l : List Int} (r : List Int) (h : de l ≠ 131) : de (l ++ r) = de l ∧ dp (l ++ r) = dp l ∧ du (l ++ r) = du l := by
  have hA : ct isF l < l.length := by
    rcases Nat.lt_or_ge (ct isF l) l.length with q | q
    · exact q
    · exfalso
      apply h
      have e1 : l1 l = [] := by rw [l1]; exact List.drop_of_length_le q
      have e2 : l2 l = [] := by rw [l2, e1]; rfl
      have e3 : l3 l = [] := by rw [l3, e2]; rfl
      rw [de, e1, e2, e3]; decide
  have a1 : l1 (l ++ r) = l1 l ++ r := by rw [l1, l1, ct_loc r hA, drop_loc r (by omega)]
  have a2 := ct_loc r hA
  have a3 := fS_loc (s := 0) r hA
  have n1 : l1 l ≠ [] := by rw [l1]; intro q; have := List.drop_eq_nil_iff.1 q; omega
  by_cases hB : ne (l1 l) = 0
  · have hN : nu (l1 l) < (l1 l).length := by
      rcases Nat.lt_or_ge (nu (l1 l)) (l1 l).length with q | q
      · exact q
      · exfalso
        apply h
        have e2 : l2 l = [] := by rw [l2]; exact List.drop_of_length_le q
        have e3 : l3 l = [] := by rw [l3, e2]; rfl
        rw [de, hB, e2, e3]; decide
    obtain ⟨b1, b2, b3, b4⟩ := num_loc r n1 (.inr hN)
    have a4 : l2 (l ++ r) = l2 l ++ r := by rw [l2, l2, a1, b4, drop_loc r (by omega)]
    have n2 : l2 l ≠ [] := by rw [l2]; intro q; have := List.drop_eq_nil_iff.1 q; omega
    by_cases hC : pe (l2 l) = 0
    · have hP : pu (l2 l) < (l2 l).length := by
        rcases Nat.lt_or_ge (pu (l2 l)) (l2 l).length with q | q
        · exact q
        · exfalso
          apply h
          have e3 : l3 l = [] := by rw [l3]; exact List.drop_of_length_le q
          rw [de, hB, hC, e3]; decide
      obtain ⟨c1, c2, c3, c4⟩ := prec_loc r n2 (.inr hP)
      have a5 : l3 (l ++ r) = l3 l ++ r := by rw [l3, l3, a4, c4, drop_loc r (by omega)]
      have n3 : l3 l ≠ [] := by rw [l3]; intro q; have := List.drop_eq_nil_iff.1 q; omega
      obtain ⟨d1, d2, d3⟩ := verb_loc r n3
      have e : de (l ++ r) = de l := by rw [de, de, a1, a4, a5, b1, c1, d1]
      exact ⟨e, by rw [dp, dp, e, a1, a4, a5, b2, b3, c2, c3, d2, a3], by rw [du, du, a1, a4, a5, b1, b4, c1, c4, d3, a2]⟩
    · obtain ⟨c1, c2, c3, c4⟩ := prec_loc r n2 (.inl hC)
      have e : de (l ++ r) = de l := by
        rw [de, de, a1, a4, b1, c1]; simp [hB, hC]
      have e0 : de l ≠ 0 := by rw [de, if_neg (by simp [hB]), if_pos hC]; exact hC
      refine ⟨e, by rw [dp, dp, e, if_neg e0, if_neg e0], ?_⟩
      rw [du, du, a1, a4, b1, b4, c1, c4, a2]; simp [hB, hC]
  · obtain ⟨b1, b2, b3, b4⟩ := num_loc r n1 (.inl hB)
    have e : de (l ++ r) = de l := by rw [de, de, a1, b1, if_pos hB, if_pos hB]
    have e0 : de l ≠ 0 := by rw [de, if_pos hB]; exact hB
    refine ⟨e, by rw [dp, dp, e, if_neg e0, if_neg e0], ?_⟩
    rw [du, du, a1, b1, a2, if_pos hB, if_pos hB]

/-- Likewise a piece, if it is no text that goes to the end. -/
theorem piece_loc {l : List Int} (r : List Int) (h : l ≠ []) (k : qe l ≠ 131) (t : l.headD 0 ≠ 37 → ct isX l < l.length) : qe (l ++ r) = qe l ∧ qp (l ++ r) = qp l ∧ qu (l ++ r) = qu l := by
  have hh := head_loc r h
  have ht := tail_loc r h
  unfold qe qp qu at *
  rw [hh, ht]
  by_cases h1 : l.headD 0 ≠ 37
  · have c := ct_loc r (t h1)
    simp only [if_pos h1, c]
    refine ⟨trivial, ?_, trivial⟩
    rw [List.take_append_of_le_length (by have := t h1; omega)]
  · simp only [if_neg h1] at k ⊢
    have h2 : l.tail ≠ [] ∨ l.tail = [] := by by_cases q : l.tail = [] <;> simp [q]
    rcases h2 with h2 | h2
    · rw [head_loc r h2]
      by_cases h3 : l.tail.headD 0 = 37
      · simp only [if_pos h3]; exact ⟨trivial, trivial, trivial⟩
      · simp only [if_neg h3] at k ⊢
        obtain ⟨a, b, c⟩ := dir_loc r k
        rw [a, b, c]
        exact ⟨rfl, rfl, rfl⟩
    · exfalso
      rw [h2] at k
      exact k (by decide)

theorem prs_ok' {l : List Int} (h : (prs l).2.2 = 0) : prs l = ((prs l).1, 0, 0) := by
  by_cases hl : l = []
  · rw [hl, prs_nil]
  · by_cases he : qe l = 0
    · rw [prs_cons hl he] at h ⊢
      split at h <;> rename_i k
      · rw [if_pos k]
      · exact absurd h k
    · rw [prs_err hl he] at h
      exact absurd h he

/-- Two lists of pieces, one behind the other: two texts that meet are one. -/
def mrg : List Pc → List Pc → List Pc
  | [], m => m
  | [p], [] => [p]
  | [p], q :: m => if p.v = 0 ∧ q.v = 0 then ⟨p.t ++ q.t, 0, 0, 0, 0, 0, 0⟩ :: m else p :: q :: m
  | p :: p' :: l, m => p :: mrg (p' :: l) m

theorem qp_v {l : List Int} (k : qe l = 0) : (qp l).v = 0 ↔ l.headD 0 ≠ 37 := by
  unfold qp
  by_cases h1 : l.headD 0 ≠ 37
  · rw [if_pos h1]; exact ⟨fun _ => h1, fun _ => rfl⟩
  · rw [if_neg h1]
    by_cases h2 : l.tail.headD 0 = 37
    · rw [if_pos h2]; exact ⟨fun q => absurd (show (37 : Int) = 0 from q) (by decide), fun q => absurd q h1⟩
    · rw [if_neg h2]
      rw [qe, if_neg h1, if_neg h2] at k
      rw [dp, if_pos k]
      have e3 : ve (l3 l.tail) = 0 := by
        rw [de] at k
        split at k
        · contradiction
        · split at k
          · contradiction
          · exact k
      have : 0 ≤ idx verbs ((l3 l.tail).headD 0) := by
        rw [ve] at e3
        split at e3
        · simp at e3
        · split at e3
          · simp at e3
          · omega
      have v := (verb_ne this).1
      have z : vv (l3 l.tail) = (l3 l.tail).headD 0 := by rw [vv, if_pos e3]
      exact ⟨fun q => absurd ((z.symm.trans q)) v, fun q => absurd q h1⟩

theorem txt_all {a : List Int} (h : ct isX a = a.length) (b : List Int) : ct isX (a ++ b) = a.length + ct isX b := by
  refine ct_app ?_
  induction a with
  | nil => simp
  | cons c l ih =>
    rw [ct, List.length_cons] at h
    by_cases hc : isX c = true
    · rw [if_pos hc] at h
      intro x hx
      rcases List.mem_cons.1 hx with rfl | hx
      · exact hc
      · exact ih (by omega) x hx
    · rw [if_neg hc] at h
      omega

theorem prs_bad' {l : List Int} (h : (prs l).2.2 ≠ 0) : prs l = ([], (prs l).2.1, (prs l).2.2) := by
  by_cases hl : l = []
  · rw [hl, prs_nil] at h; exact absurd rfl h
  · by_cases he : qe l = 0
    · rw [prs_cons hl he] at h ⊢
      split at h <;> rename_i k
      · exact absurd rfl h
      · rw [if_neg k]
    · rw [prs_err hl he]
theorem mrg_one {p : Pc} (h : p.v ≠ 0) (m : List Pc) : mrg [p] m = p :: m := by
  cases m with
  | nil => rfl
  | cons q m => rw [mrg, if_neg (fun z => h z.1)]
theorem mrg_one' {p q : Pc} (h : q.v ≠ 0) (m : List Pc) : mrg [p] (q :: m) = p :: q :: m := by
  rw [mrg, if_neg (fun z => h z.2)]

/-- A format that is taken, and another one behind it. -/
theorem prs_app : ∀ (n : Nat) (a b : List Int), a.length ≤ n → (prs a).2.2 = 0 →
    ((prs b).2.2 = 0 → prs (a ++ b) = (mrg (prs a).1 (prs b).1, 0, 0)) ∧ ((prs b).2.2 ≠ 0 → prs (a ++ b) = ([], a.length + (prs b).2.1, (prs b).2.2)) := by
  intro n
  induction n with
  | zero =>
    intro a b hl _
    have : a = [] := List.eq_nil_of_length_eq_zero (by omega)
    subst this
    rw [List.nil_append, prs_nil]
    refine ⟨fun h => ?_, fun h => ?_⟩
    · rw [show mrg ([] : List Pc) (prs b).1 = (prs b).1 by rw [mrg]]; exact prs_ok' h
    · rw [List.length_nil, Nat.zero_add]; exact prs_bad' h
  | succ n ih =>
    intro a b hl ha
    by_cases h0 : a = []
    · subst h0
      rw [List.nil_append, prs_nil]
      refine ⟨fun h => ?_, fun h => ?_⟩
      · rw [show mrg ([] : List Pc) (prs b).1 = (prs b).1 by rw [mrg]]; exact prs_ok' h
      · rw [List.length_nil, Nat.zero_add]; exact prs_bad' h
    · have he : qe a = 0 := by
        by_cases q : qe a = 0
        · exact q
        · rw [prs_err h0 q] at ha; exact ha
      have hab : a ++ b ≠ [] := fun q => h0 (List.append_eq_nil_iff.1 q).1
      have up := qu_pos h0
      have ul := qu_le h0
      have hr : (prs (a.drop (qu a))).2.2 = 0 := by
        rw [prs_cons h0 he] at ha
        split at ha <;> rename_i k
        · exact k
        · exact ha
      have pa : prs a = (qp a :: (prs (a.drop (qu a))).1, 0, 0) := by rw [prs_cons h0 he, if_pos hr]
      by_cases ht : a.headD 0 ≠ 37 ∧ ct isX a = a.length
      · obtain ⟨h1, h2⟩ := ht
        have eu : qu a = a.length := by rw [qu, if_pos h1, h2]
        have ep : qp a = ⟨a, 0, 0, 0, 0, 0, 0⟩ := by rw [qp, if_pos h1, h2, List.take_length]
        rw [eu, List.drop_length, prs_nil, ep] at pa
        have hh : (a ++ b).headD 0 ≠ 37 := by rw [head_loc b h0]; exact h1
        have ca := txt_all h2 b
        have e2 : qe (a ++ b) = 0 := by rw [qe, if_pos hh]
        have u2 : qu (a ++ b) = a.length + ct isX b := by rw [qu, if_pos hh, ca]
        have p2 : qp (a ++ b) = ⟨a ++ b.take (ct isX b), 0, 0, 0, 0, 0, 0⟩ := by rw [qp, if_pos hh, ca, List.take_length_add_append]
        rw [prs_cons hab e2, u2, p2, List.drop_length_add_append, pa]
        by_cases hb : b = []
        · subst hb
          rw [show ct isX ([] : List Int) = 0 from rfl, List.drop_zero, prs_nil]
          refine ⟨fun _ => ?_, fun q => absurd rfl q⟩
          simp [mrg]
        · by_cases h3 : b.headD 0 ≠ 37
          · have eb : qe b = 0 := by rw [qe, if_pos h3]
            have ub : qu b = ct isX b := by rw [qu, if_pos h3]
            have pb : qp b = ⟨b.take (ct isX b), 0, 0, 0, 0, 0, 0⟩ := by rw [qp, if_pos h3]
            rw [prs_cons hb eb, ub, pb]
            by_cases k : (prs (b.drop (ct isX b))).2.2 = 0
            · rw [if_pos k, if_pos k]
              refine ⟨fun _ => ?_, fun q => absurd rfl q⟩
              simp [mrg]
            · rw [if_neg k, if_neg k]
              refine ⟨fun q => absurd q k, fun _ => ?_⟩
              rw [Nat.add_assoc]
          · have c0 : ct isX b = 0 := ct_zero (by
              have : b.headD 0 = 37 := by omega
              rw [this]; decide)
            rw [c0, List.drop_zero, List.take_zero, List.append_nil, Nat.add_zero]
            refine ⟨fun q => ?_, fun q => ?_⟩
            · rw [if_pos q]
              have eb : qe b = 0 := by
                by_cases z : qe b = 0
                · exact z
                · rw [prs_err hb z] at q; exact absurd q z
              have vb : (qp b).v ≠ 0 := fun z => h3 ((qp_v eb).1 z)
              have hq : (prs (b.drop (qu b))).2.2 = 0 := by
                rw [prs_cons hb eb] at q
                split at q <;> rename_i k
                · exact k
                · exact q
              rw [prs_cons hb eb, if_pos hq, mrg_one' vb]
            · rw [if_neg q]
      · have tx : a.headD 0 ≠ 37 → ct isX a < a.length := fun q => by
          have := ct_le isX a
          rcases Nat.lt_or_ge (ct isX a) a.length with z | z
          · exact z
          · exact absurd ⟨q, by omega⟩ ht
        obtain ⟨l1', l2', l3'⟩ := piece_loc b h0 (by rw [he]; decide) tx
        have i1 := ih (a.drop (qu a)) b (by rw [List.length_drop]; omega) hr
        rw [prs_cons hab (by rw [l1']; exact he), l2', l3', drop_loc b ul, pa]
        refine ⟨fun q => ?_, fun q => ?_⟩
        · rw [i1.1 q, if_pos rfl]
          congr 1
          cases hm : (prs (a.drop (qu a))).1 with
          | nil =>
            have ad : a.drop (qu a) = [] := by
              by_cases z : a.drop (qu a) = []
              · exact z
              · have ez : qe (a.drop (qu a)) = 0 := by
                  by_cases y : qe (a.drop (qu a)) = 0
                  · exact y
                  · rw [prs_err z y] at hr; exact hr
                rw [prs_cons z ez] at hm hr
                split at hm <;> rename_i k
                · simp at hm
                · rw [if_neg k] at hr; exact absurd hr k
            have pv : (qp a).v ≠ 0 := by
              intro z
              have z1 := (qp_v he).1 z
              have z2 := tx z1
              have z3 : qu a = ct isX a := by rw [qu, if_pos z1]
              have := List.drop_eq_nil_iff.1 ad
              omega
            rw [mrg_one pv]; rfl
          | cons p' l' => rfl
        · rw [i1.2 q, if_neg q, List.length_drop]
          simp only
          rw [show qu a + (a.length - qu a + (prs b).2.1) = a.length + (prs b).2.1 by omega]
end Dr
end Go.Proofs.YtoceghlfckfojaaDoor
