/-
  A TEXT CUT INTO PIECES, put together with a directive and told apart again: mathematics of DirectiveSingle.
-/
import Derived.Test.YtoceghlfckfojaaDoorDBackM
import Derived.Test.YtoceghlfckfojaaDoorDSgN
import Derived.Test.YtoceghlfckfojaaDoorDLoc
namespace Go.Proofs.YtoceghlfckfojaaDoor
namespace Dr

def txt (t : List Int) : Pc := ⟨t, 0, 0, 0, 0, 0, 0⟩
def pct : Pc := ⟨[], 37, 0, 0, 0, 0, 0⟩
/-- The pieces of a text, t being the bytes since the last percent. -/
def cutF (t : List Int) : List Int → List Pc
  | [] => if t = [] then [] else [txt t]
  | c :: l => if c = 37 then (if t = [] then [pct] else [txt t, pct]) ++ cutF [] l else cutF (t ++ [c]) l
def cutL (xs : List Int) : List Pc := cutF [] xs
/-- A text with each percent twice. -/
def dbl (xs : List Int) : List Int := xs.flatMap fun c => if c = 37 then [37, 37] else [c]
theorem dbl_app (a b : List Int) : dbl (a ++ b) = dbl a ++ dbl b := by simp [dbl]
theorem dbl_cons (c : Int) (l : List Int) : dbl (c :: l) = (if c = 37 then [37, 37] else [c]) ++ dbl l := by simp [dbl]
theorem dbl_no {t : List Int} (h : ∀ x ∈ t, x ≠ 37) : dbl t = t := by
  induction t with
  | nil => rfl
  | cons c l ih => rw [dbl_cons, if_neg (h c (by simp)), ih (fun x hx => h x (by simp [hx]))]; rfl
theorem dbl_len (xs : List Int) : (dbl xs).length ≤ 2 * xs.length := by
  induction xs with
  | nil => simp [dbl]
  | cons c l ih => rw [dbl_cons, List.length_append, List.length_cons]; split <;> simp <;> omega

theorem ok_txt {t : List Int} (h0 : t ≠ []) (h : ∀ x ∈ t, x ≠ 37) : isT (txt t) := ⟨h0, rfl, rfl, rfl, rfl, rfl, rfl, idx_none h⟩
theorem ok_pct : isP pct := ⟨rfl, rfl, rfl, rfl, rfl, rfl, rfl⟩
theorem no_app {t : List Int} {c : Int} (h : ∀ x ∈ t, x ≠ 37) (hc : c ≠ 37) : ∀ x ∈ t ++ [c], x ≠ 37 := by
  intro x hx
  rcases List.mem_append.1 hx with q | q
  · exact h x q
  · simp at q; rw [q]; exact hc
theorem cutF_ok : ∀ (l t : List Int), (∀ x ∈ t, x ≠ 37) → ∀ p ∈ cutF t l, isT p ∨ isP p
  | [], t, h, p, hp => by
    rw [cutF] at hp
    split at hp
    · simp at hp
    · rename_i q; simp at hp; rw [hp]; exact .inl (ok_txt q h)
  | c :: l, t, h, p, hp => by
    rw [cutF] at hp
    split at hp
    · rcases List.mem_append.1 hp with q | q
      · split at q
        · simp at q; rw [q]; exact .inr ok_pct
        · rename_i k; simp at q
          rcases q with q | q
          · rw [q]; exact .inl (ok_txt k h)
          · rw [q]; exact .inr ok_pct
      · exact cutF_ok l [] (fun x hx => by simp at hx) p q
    · rename_i k
      exact cutF_ok l _ (no_app h k) p hp
theorem cutF_pl : ∀ (l t : List Int), pl (cutF t l) = t ++ l
  | [], t => by
    rw [cutF]
    split
    · rename_i h; rw [h]; rfl
    · simp [pl, txt]
  | c :: l, t => by
    rw [cutF]
    split
    · rename_i h
      rw [pl_app, cutF_pl l [], h]
      split
      · rename_i k; rw [k]; simp [pl, pct]
      · simp [pl, pct, txt]
    · rw [cutF_pl l]; simp
theorem wrs_cons (p : Pc) (l : List Pc) : wrs (p :: l) = wr p ++ wrs l := by simp [wrs]
theorem wr_txt (t : List Int) : wr (txt t) = t := rfl
theorem wr_pct : wr pct = [37, 37] := rfl
theorem cutF_wrs : ∀ (l t : List Int), wrs (cutF t l) = t ++ dbl l
  | [], t => by
    rw [cutF]
    split
    · rename_i h; rw [h]; rfl
    · rw [wrs_cons, wr_txt]; rfl
  | c :: l, t => by
    rw [cutF, dbl_cons]
    split
    · rw [wrs_app, cutF_wrs l []]
      split
      · rename_i k; rw [k, wrs_cons, wr_pct]; simp [wrs]
      · rw [wrs_cons, wrs_cons, wr_txt, wr_pct]; simp [wrs]
    · rw [cutF_wrs l]; simp
theorem cutF_len : ∀ (l t : List Int), (cutF t l).length ≤ 2 * l.length + 1
  | [], t => by rw [cutF]; split <;> simp
  | c :: l, t => by
    rw [cutF]
    split
    · have := cutF_len l []
      rw [List.length_append, List.length_cons]
      split <;> simp <;> omega
    · have := cutF_len l (t ++ [c]); rw [List.length_cons]; omega
/-- A list whose first piece is no text may stand behind any text. -/
def noT0 (l : List Pc) : Prop := (l.head?.map (·.v)) ≠ some 0
theorem cutF_tt : ∀ (l t : List Int), noTT (cutF t l)
  | [], t => by
    rw [cutF]
    split
    · trivial
    · exact ⟨fun _ q => by simp at q, trivial⟩
  | c :: l, t => by
    rw [cutF]
    split
    · have ih := cutF_tt l []
      split
      · exact ⟨fun q => by simp [pct] at q, ih⟩
      · exact ⟨fun _ q => by simp [pct] at q, fun q => by simp [pct] at q, ih⟩
    · exact cutF_tt l _
theorem noTT_app : ∀ (a : List Pc) (p : Pc) (b : List Pc), noTT a → p.v ≠ 0 → noTT b → noTT (a ++ p :: b)
  | [], p, b, _, h, hb => ⟨fun q => absurd q h, hb⟩
  | q :: a, p, b, ha, h, hb => by
    refine ⟨fun k => ?_, noTT_app a p b ha.2 h hb⟩
    cases a with
    | nil => simpa using h
    | cons r a => simpa using ha.1 k

theorem cutL_N (xs : List Int) : ∀ p ∈ cutL xs, isN p := by
  intro p hp
  rcases cutF_ok xs [] (fun x hx => by simp at hx) p hp with h | h
  · exact .inl h.2.1
  · exact .inr h.2.1
theorem wants_N : ∀ {l : List Pc}, (∀ p ∈ l, isN p) → wants l = 0
  | [], _ => rfl
  | p :: l, h => by rw [wants, tk_isN (h p (by simp)), wants_N (fun q hq => h q (by simp [hq]))]; rfl
theorem fd_N : ∀ {l : List Pc} (r : List Pc), (∀ p ∈ l, isN p) → fd (l ++ r) = l.length + fd r
  | [], r, _ => by simp
  | p :: l, r, h => by
    rw [List.cons_append, fd, if_pos (h p (by simp)), fd_N r (fun q hq => h q (by simp [hq])), List.length_cons]; omega

/-- A text alone. -/
theorem prs_dbl (xs : List Int) : prs (dbl xs) = (cutL xs, 0, 0) := by
  have e : wrs (cutL xs) = dbl xs := by rw [cutL, cutF_wrs]; rfl
  rw [← e]
  refine prs_wrs _ (fun p hp => ?_) (cutF_tt _ _)
  rcases cutF_ok xs [] (fun x hx => by simp at hx) p hp with h | h
  · exact .inl h
  · exact .inr (.inl h)
theorem sg_dbl (xs : List Int) : sgO (dbl xs) = false := by
  rw [sgO, prs_dbl]
  refine decide_eq_false (fun q => ?_)
  have h := q.2.1
  rw [show wants (cutL xs, 0, 0).1 = 0 from wants_N (cutL_N xs)] at h
  omega

/-- The list of the law. -/
def sgl (a : List Int) (p : Pc) (b : List Int) : List Pc := cutL a ++ p :: cutL b
theorem sgl_wrs (a : List Int) (p : Pc) (b : List Int) : wrs (sgl a p b) = dbl a ++ wr p ++ dbl b := by
  rw [sgl, wrs_app, wrs_cons, cutL, cutL, cutF_wrs, cutF_wrs]; simp
theorem sgl_ok {a : List Int} {p : Pc} {b : List Int} (h : ok p) : ∀ q ∈ sgl a p b, ok q := by
  intro q hq
  rcases List.mem_append.1 hq with k | k
  · rcases cutF_ok a [] (fun x hx => by simp at hx) q k with k | k
    · exact .inl k
    · exact .inr (.inl k)
  · rcases List.mem_cons.1 k with k | k
    · rw [k]; exact h
    · rcases cutF_ok b [] (fun x hx => by simp at hx) q k with k | k
      · exact .inl k
      · exact .inr (.inl k)
theorem sgl_len (a : List Int) (p : Pc) (b : List Int) : (sgl a p b).length ≤ 2 * a.length + 2 * b.length + 3 := by
  have h1 := cutF_len a []
  have h2 := cutF_len b []
  rw [sgl, List.length_append, List.length_cons, cutL, cutL]; omega
/-- p is a text or a percent: there is no directive. -/
theorem sgl_none {a : List Int} {p : Pc} {b : List Int} (h : isT p ∨ isP p) : sgO (wrs (sgl a p b)) = false := by
  obtain ⟨q, hq⟩ : ∃ q, wr p = dbl q := by
    rcases h with h | h
    · refine ⟨p.t, ?_⟩
      rw [wr, if_pos h.2.1, dbl_no]
      intro x hx k
      have := isX_of h.2.2.2.2.2.2.2 x hx
      simp [isX, k] at this
    · exact ⟨[37], by rw [wr, h.2.1]; rfl⟩
  rw [sgl_wrs, hq, ← dbl_app, ← dbl_app]
  exact sg_dbl _
/-- p is a directive: it is found again. -/
theorem sgl_prs {a : List Int} {p : Pc} {b : List Int} (h : isR p) : prs (wrs (sgl a p b)) = (sgl a p b, 0, 0) :=
  prs_wrs _ (sgl_ok (.inr (.inr h))) (noTT_app _ _ _ (cutF_tt _ _) (verb_ne h.1).1 (cutF_tt _ _))
theorem sgl_fd {a : List Int} {p : Pc} {b : List Int} (h : isR p) : fd (sgl a p b) = (cutL a).length := by
  have v := verb_ne h.1
  rw [sgl, fd_N _ (cutL_N a), fd, if_neg (fun q => q.elim v.1 v.2.1)]; rfl
theorem sgl_wants {a : List Int} {p : Pc} {b : List Int} : wants (sgl a p b) = tk p := by
  rw [sgl, wants_app, wants, wants_N (cutL_N a), wants_N (cutL_N b)]; omega
theorem sgl_P {a : List Int} {p : Pc} {b : List Int} (h : isR p) : sgP (wrs (sgl a p b)) = p := by
  rw [sgP, sgl_prs h, sgl_fd h, sgl]
  simp
theorem tk_one {p : Pc} (h : isR p) : tk p = 1 ↔ p.wk ≠ 2 ∧ p.pk ≠ 2 := by
  have v := verb_ne h.1
  rw [tk, if_neg (fun q => q.elim v.1 v.2.1)]
  by_cases a : p.wk = 2 <;> by_cases b : p.pk = 2 <;> simp [a, b]
theorem sgl_O {a : List Int} {p : Pc} {b : List Int} (h : isR p) : sgO (wrs (sgl a p b)) = decide (p.wk ≠ 2 ∧ p.pk ≠ 2 ∧ 0 ≤ idx pvs p.v) := by
  rw [sgO, sgl_P h, sgl_prs h]
  refine decide_eq_decide.2 ?_
  show (0 = 0 ∧ wants (sgl a p b) = 1 ∧ _) ↔ _
  rw [sgl_wants, tk_one h]
  constructor
  · rintro ⟨_, ⟨x, y⟩, z⟩; exact ⟨x, y, z⟩
  · rintro ⟨x, y, z⟩; exact ⟨rfl, ⟨x, y⟩, z⟩
theorem sgl_yes {a : List Int} {p : Pc} {b : List Int} (h : isR p) (k : sgO (wrs (sgl a p b)) = true) : sgA (wrs (sgl a p b)) = a ∧ sgB (wrs (sgl a p b)) = b ∧ sgS (wrs (sgl a p b)) = spv p 0 0 := by
  obtain ⟨e1, e2, e3⟩ := sg_yes k
  rw [e1, e2, e3, sgl_P h, sgl_prs h]
  show pl ((sgl a p b).take (fd (sgl a p b))) = a ∧ pl ((sgl a p b).drop (fd (sgl a p b) + 1)) = b ∧ _
  rw [sgl_fd h, sgl]
  refine ⟨?_, ?_, rfl⟩
  · rw [List.take_left, cutL, cutF_pl]; rfl
  · rw [show (cutL a).length + 1 = (cutL a ++ [p]).length by simp, show cutL a ++ p :: cutL b = (cutL a ++ [p]) ++ cutL b by simp, List.drop_left, cutL, cutF_pl]; rfl
theorem wants_mrg : ∀ (l m : List Pc), wants (mrg l m) = wants l + wants m
  | [], m => by rw [mrg]; simp [wants]
  | [p], [] => by rw [mrg]; simp [wants]
  | [p], q :: m => by
    rw [mrg]
    split
    · rename_i h
      have a : tk p = 0 := tk_isN (.inl h.1)
      have b : tk q = 0 := tk_isN (.inl h.2)
      have c : tk ⟨p.t ++ q.t, 0, 0, 0, 0, 0, 0⟩ = 0 := tk_isN (.inl rfl)
      simp only [wants, a, b, c]; omega
    · simp [wants]
  | p :: p' :: l, m => by
    have ih := wants_mrg (p' :: l) m
    rw [mrg]
    simp only [wants] at *
    omega
/-- Twice the same: two directives. -/
theorem sgl_two {a : List Int} {p : Pc} {b : List Int} (h : isR p) (k : tk p = 1) : sgO (wrs (sgl a p b) ++ wrs (sgl a p b)) = false := by
  have e := sgl_prs (a := a) (b := b) h
  have q := (prs_app _ (wrs (sgl a p b)) (wrs (sgl a p b)) (Nat.le_refl _) (by rw [e])).1 (by rw [e])
  rw [e] at q
  rw [sgO, q]
  refine decide_eq_false (fun z => ?_)
  have w := z.2.1
  rw [show wants (mrg (sgl a p b, (0 : Nat), (0 : Int)).1 (sgl a p b, (0 : Nat), (0 : Int)).1, (0 : Nat), (0 : Int)).1 = wants (sgl a p b) + wants (sgl a p b) from wants_mrg _ _, sgl_wants, k] at w
  omega
theorem pvs_iff {v : Int} : 0 ≤ idx pvs v ↔ v = 101 ∨ v = 69 ∨ v = 102 ∨ v = 70 ∨ v = 103 ∨ v = 71 := by
  constructor
  · intro h
    have := idx_cons h
    rcases this with q | q
    · exact .inl q
    · rcases idx_cons q with q | q
      · exact .inr (.inl q)
      · rcases idx_cons q with q | q
        · exact .inr (.inr (.inl q))
        · rcases idx_cons q with q | q
          · exact .inr (.inr (.inr (.inl q)))
          · rcases idx_cons q with q | q
            · exact .inr (.inr (.inr (.inr (.inl q))))
            · rcases idx_cons q with q | q
              · exact .inr (.inr (.inr (.inr (.inr q))))
              · simp [idx] at q
  · rintro (rfl | rfl | rfl | rfl | rfl | rfl) <;> decide
/-- The cut, step by step. -/
theorem cut_text {xs : List Int} {i f : Nat} (hi : i < xs.length) (hf : f ≤ i) (h : nx xs i ≠ 37) : cutF ((xs.drop f).take (i - f)) (xs.drop i) = cutF ((xs.drop f).take (i + 1 - f)) (xs.drop (i + 1)) := by
  have e : nx xs i = xs[i] := by rw [nx, List.getD_eq_getElem?_getD, List.getElem?_eq_getElem hi]; rfl
  rw [List.drop_eq_getElem_cons hi, cutF, if_neg (by rw [← e]; exact h)]
  congr 1
  rw [show i + 1 - f = (i - f) + 1 by omega, List.take_add_one, List.getElem?_drop, show f + (i - f) = i by omega, List.getElem?_eq_getElem hi]
  rfl
theorem cut_pct {xs : List Int} {i : Nat} {t : List Int} (hi : i < xs.length) (h : nx xs i = 37) : cutF t (xs.drop i) = (if t = [] then [pct] else [txt t, pct]) ++ cutF [] (xs.drop (i + 1)) := by
  have e : nx xs i = xs[i] := by rw [nx, List.getD_eq_getElem?_getD, List.getElem?_eq_getElem hi]; rfl
  rw [List.drop_eq_getElem_cons hi, cutF, if_pos (by rw [← e]; exact h)]
end Dr
end Go.Proofs.YtoceghlfckfojaaDoor
