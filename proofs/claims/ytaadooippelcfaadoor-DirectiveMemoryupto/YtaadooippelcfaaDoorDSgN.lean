/-
  WHAT Single TELLS of a format: mathematics.
-/
import Derived.Test.YtaadooippelcfaaDoorRnForm
import Derived.Test.YtaadooippelcfaaDoorDTk
import Derived.Test.YtaadooippelcfaaDoorGE
namespace Go.Proofs.YtaadooippelcfaaDoor
open Go
namespace Dr

/-- What texts and percents print. -/
def pl (ps : List Pc) : List Int := ps.flatMap fun p => if p.v = 37 then [37] else p.t
theorem pl_app (a b : List Pc) : pl (a ++ b) = pl a ++ pl b := by simp [pl]
theorem pl_take {l : List Pc} {i : Nat} (h : i < l.length) : pl (l.take (i + 1)) = pl (l.take i) ++ (if (l.getD i Pc.no).v = 37 then [37] else (l.getD i Pc.no).t) := by
  rw [List.take_add_one, List.getElem?_eq_getElem h, pl_app, List.getD_eq_getElem?_getD, List.getElem?_eq_getElem h]
  simp [pl]
theorem pl_le {l : List Pc} {i : Nat} : (pl (l.take i)).length ≤ (pl l).length := by
  have e : pl l = pl (l.take i) ++ pl (l.drop i) := by rw [← pl_app, List.take_append_drop]
  rw [e, List.length_append]; omega
theorem pl_mem {l : List Pc} (h : ∀ p ∈ l, ∀ x ∈ p.t, 0 ≤ x ∧ x < 256) : ∀ x ∈ pl l, 0 ≤ x ∧ x < 256 := by
  intro x hx
  obtain ⟨p, hp, hx⟩ := List.mem_flatMap.1 hx
  split at hx
  · simp at hx; omega
  · exact h p hp x hx

/-- A piece that is no directive. -/
def isN (p : Pc) : Prop := p.v = 0 ∨ p.v = 37
instance (p : Pc) : Decidable (isN p) := by unfold isN; infer_instance

/-- The place of the first directive. -/
def fd : List Pc → Nat
  | [] => 0
  | p :: l => if isN p then fd l + 1 else 0
/-- How many directives there are. -/
def cq : List Pc → Int
  | [] => 0
  | p :: l => (if isN p then 0 else 1) + cq l

theorem cq_app (a b : List Pc) : cq (a ++ b) = cq a + cq b := by
  induction a with
  | nil => simp [cq]
  | cons p l ih => rw [List.cons_append, cq, cq, ih]; omega
theorem cq_take {l : List Pc} {i : Nat} (h : i < l.length) : cq (l.take (i + 1)) = cq (l.take i) + (if isN (l.getD i Pc.no) then 0 else 1) := by
  rw [List.take_add_one, List.getElem?_eq_getElem h, cq_app, List.getD_eq_getElem?_getD, List.getElem?_eq_getElem h]
  simp [cq]
theorem cq_bd (l : List Pc) : 0 ≤ cq l ∧ cq l ≤ l.length := by
  induction l with
  | nil => simp [cq]
  | cons p l ih => rw [cq, List.length_cons]; split <;> omega
theorem tk_isN {p : Pc} (h : isN p) : tk p = 0 := if_pos h
theorem tk_not {p : Pc} (h : ¬ isN p) : 1 ≤ tk p := by
  have h' : ¬ (p.v = 0 ∨ p.v = 37) := h
  rw [tk, if_neg h']; split <;> split <;> omega
theorem cq_wants (l : List Pc) : cq l ≤ wants l := by
  induction l with
  | nil => simp [cq, wants]
  | cons p l ih =>
    rw [cq, wants]
    by_cases h : isN p
    · rw [if_pos h, tk_isN h]; omega
    · rw [if_neg h]; have := tk_not h; omega
theorem cq_zero {l : List Pc} (h : cq l = 0) : wants l = 0 ∧ fd l = l.length ∧ ∀ p ∈ l, isN p := by
  induction l with
  | nil => simp [wants, fd]
  | cons p l ih =>
    rw [cq] at h
    have b := cq_bd l
    by_cases k : isN p
    · rw [if_pos k] at h
      obtain ⟨a, b, c⟩ := ih (by omega)
      refine ⟨by rw [wants, tk_isN k, a]; rfl, by rw [fd, if_pos k, b, List.length_cons], fun q hq => ?_⟩
      rcases List.mem_cons.1 hq with rfl | hq
      · exact k
      · exact c q hq
    · rw [if_neg k] at h; omega
theorem cq_one {l : List Pc} (h : cq l = 1) : wants l = tk (l.getD (fd l) Pc.no) := by
  induction l with
  | nil => simp [cq] at h
  | cons p l ih =>
    rw [cq] at h
    by_cases k : isN p
    · rw [if_pos k] at h
      rw [wants, tk_isN k, fd, if_pos k, ih (by omega)]
      simp
    · rw [if_neg k] at h
      rw [wants, fd, if_neg k, (cq_zero (l := l) (by omega)).1]
      simp
theorem wants_one {l : List Pc} : wants l = 1 ↔ cq l = 1 ∧ tk (l.getD (fd l) Pc.no) = 1 := by
  constructor
  · intro h
    have a := cq_wants l
    have b := cq_bd l
    have c : cq l = 1 := by
      by_cases k : cq l = 0
      · have := (cq_zero k).1; omega
      · omega
    exact ⟨c, by rw [← cq_one c]; exact h⟩
  · rintro ⟨h, k⟩
    rw [cq_one h, k]

/-- What stands ahead of the first directive. -/
theorem fd_le (l : List Pc) : fd l ≤ l.length := by
  induction l with
  | nil => simp [fd]
  | cons p l ih => rw [fd, List.length_cons]; split <;> omega
theorem fd_lt {l : List Pc} (h : cq l ≠ 0) : fd l < l.length := by
  induction l with
  | nil => simp [cq] at h
  | cons p l ih =>
    rw [cq] at h
    rw [fd, List.length_cons]
    by_cases k : isN p
    · rw [if_pos k] at h ⊢; have := ih (by omega); omega
    · rw [if_neg k]; omega
theorem fd_ahead {l : List Pc} {i : Nat} (h : i < fd l) : isN (l.getD i Pc.no) := by
  induction l generalizing i with
  | nil => simp [fd] at h
  | cons p l ih =>
    rw [fd] at h
    by_cases k : isN p
    · rw [if_pos k] at h
      cases i with
      | zero => simpa using k
      | succ i => simpa using ih (i := i) (by omega)
    · rw [if_neg k] at h; omega
theorem fd_at {l : List Pc} (h : fd l < l.length) : ¬ isN (l.getD (fd l) Pc.no) := by
  induction l with
  | nil => simp at h
  | cons p l ih =>
    rw [fd] at h ⊢
    by_cases k : isN p
    · rw [if_pos k] at h ⊢
      simpa using ih (by simpa using h)
    · rw [if_neg k]; simpa using k
theorem fd_is {l : List Pc} {i : Nat} (h1 : i ≤ fd l) (h2 : ¬ isN (l.getD i Pc.no)) : fd l = i := by
  rcases Nat.lt_or_ge i (fd l) with h | h
  · exact absurd (fd_ahead h) h2
  · omega

/-- Where the last directive stands, as the reference finds it. -/
def Lw (l : List Pc) (i : Nat) (n : Int) (k : Nat) : Prop := n = cq (l.take i) ∧ (n = 0 → i ≤ fd l ∧ k = 0) ∧ (n = 1 → k = fd l) ∧ k ≤ i
theorem Lw.start (l : List Pc) : Lw l 0 0 0 := ⟨by simp [cq], fun _ => ⟨by omega, rfl⟩, fun h => by omega, by omega⟩
theorem Lw.skip {l : List Pc} {i k : Nat} {n : Int} (h : Lw l i n k) (hi : i < l.length) (hn : isN (l.getD i Pc.no)) : Lw l (i + 1) n k := by
  obtain ⟨a, b, c, d⟩ := h
  refine ⟨by rw [cq_take hi, if_pos hn, ← a]; omega, fun q => ⟨?_, (b q).2⟩, c, by omega⟩
  have h1 := (b q).1
  rcases Nat.lt_or_ge i (fd l) with h | h
  · omega
  · have e : fd l = i := by omega
    exact absurd hn (by have := fd_at (l := l) (by omega); rw [e] at this; exact this)
theorem Lw.hit {l : List Pc} {i k : Nat} {n : Int} (h : Lw l i n k) (hi : i < l.length) (hn : ¬ isN (l.getD i Pc.no)) : Lw l (i + 1) (n + 1) i := by
  obtain ⟨a, b, c, d⟩ := h
  have := cq_bd (l.take i)
  refine ⟨by rw [cq_take hi, if_neg hn, ← a], fun q => by omega, fun q => ?_, by omega⟩
  exact (fd_is (b (by omega)).1 hn).symm
theorem Lw.done {l : List Pc} {k : Nat} {n : Int} (h : Lw l l.length n k) : n = cq l ∧ (n = 1 → k = fd l) := by
  obtain ⟨a, b, c, d⟩ := h
  rw [List.take_length] at a
  exact ⟨a, c⟩

/-- The letters that Single takes. -/
def pvs : List Int := [101, 69, 102, 70, 103, 71]
/-- The directive of a format. -/
def sgP (xs : List Int) : Pc := (prs xs).1.getD (fd (prs xs).1) Pc.no
def sgO (xs : List Int) : Bool := decide ((prs xs).2.2 = 0 ∧ wants (prs xs).1 = 1 ∧ 0 ≤ idx pvs (sgP xs).v)
def sgA (xs : List Int) : List Int := if sgO xs = true then pl ((prs xs).1.take (fd (prs xs).1)) else []
def sgB (xs : List Int) : List Int := if sgO xs = true then pl ((prs xs).1.drop (fd (prs xs).1 + 1)) else []
def sgS (xs : List Int) : Array Value := if sgO xs = true then spv (sgP xs) 0 0 else #[.int .u8 0, .int .i64 0, .int .i64 0, .int .i64 0]

theorem ok_isR {p : Pc} (h : ok p) : isR p ↔ ¬ isN p := by
  constructor
  · intro q k
    have v := verb_ne q.1
    rcases k with k | k
    · exact v.1 k
    · exact v.2.1 k
  · intro q
    rcases h with k | k | k
    · exact absurd (.inl k.2.1) q
    · exact absurd (.inr k.2.1) q
    · exact k
theorem num_bd {k n l : Int} (h : num k n l) (hl : 0 ≤ l) : 0 ≤ n ∧ n ≤ 4096 := by
  rcases h with h | h <;> omega
theorem ste_zero {p : Pc} (h : isR p) (h1 : p.wk ≠ 2) (h2 : p.pk ≠ 2) : ste p 0 0 = 0 := by
  have a := num_bd h.2.2.2.2.1 (by omega)
  have b := num_bd h.2.2.2.2.2 (by omega)
  rw [ste, if_pos h, if_neg]
  unfold sW sP
  rw [if_neg h1, if_neg h2]
  split <;> omega
/-- What the one directive is. -/
theorem sg_one {xs : List Int} (h : wants (prs xs).1 = 1) : fd (prs xs).1 < (prs xs).1.length ∧ isR (sgP xs) ∧ (sgP xs).wk ≠ 2 ∧ (sgP xs).pk ≠ 2 ∧ ste (sgP xs) 0 0 = 0 := by
  obtain ⟨c, t⟩ := wants_one.1 h
  have l := fd_lt (l := (prs xs).1) (by omega)
  have n := fd_at l
  have m : sgP xs ∈ (prs xs).1 := by rw [sgP, List.getD_eq_getElem?_getD, List.getElem?_eq_getElem l]; exact List.getElem_mem l
  have r : isR (sgP xs) := (ok_isR (prs_form _ xs (Nat.le_refl _) _ m)).2 n
  have t' : tk (sgP xs) = 1 := t
  have n' : ¬ ((sgP xs).v = 0 ∨ (sgP xs).v = 37) := n
  rw [tk, if_neg n'] at t'
  have a : (sgP xs).wk ≠ 2 := fun q => by rw [if_pos q] at t'; split at t' <;> omega
  have b : (sgP xs).pk ≠ 2 := fun q => by rw [if_pos q] at t'; split at t' <;> omega
  exact ⟨l, r, a, b, ste_zero r a b⟩

theorem sg_no {xs : List Int} (h : sgO xs = false) : sgA xs = [] ∧ sgB xs = [] ∧ sgS xs = #[.int .u8 0, .int .i64 0, .int .i64 0, .int .i64 0] := by
  have e : ¬ sgO xs = true := by rw [h]; exact Bool.false_ne_true
  exact ⟨if_neg e, if_neg e, if_neg e⟩
theorem sg_yes {xs : List Int} (h : sgO xs = true) : sgA xs = pl ((prs xs).1.take (fd (prs xs).1)) ∧ sgB xs = pl ((prs xs).1.drop (fd (prs xs).1 + 1)) ∧ sgS xs = spv (sgP xs) 0 0 := ⟨if_pos h, if_pos h, if_pos h⟩

/-- A piece prints no more bytes than the format has. -/
theorem pl_prs : ∀ (n : Nat) (l : List Int), l.length ≤ n → (pl (prs l).1).length ≤ l.length := by
  intro n
  induction n with
  | zero =>
    intro l h
    have : l = [] := List.eq_nil_of_length_eq_zero (by omega)
    subst this
    rw [prs_nil]; simp [pl]
  | succ n ih =>
    intro l h
    by_cases hl : l = []
    · subst hl; rw [prs_nil]; simp [pl]
    · by_cases he : qe l = 0
      · rw [prs_cons hl he]
        split
        · have p := qu_pos hl
          have q := qu_le hl
          have k := ih (l.drop (qu l)) (by rw [List.length_drop]; omega)
          rw [List.length_drop] at k
          have e : pl (qp l :: (prs (l.drop (qu l))).1) = (if (qp l).v = 37 then [37] else (qp l).t) ++ pl (prs (l.drop (qu l))).1 := by simp [pl]
          have f : ((if (qp l).v = 37 then [37] else (qp l).t) : List Int).length ≤ qu l := by
            unfold qp qu at *
            split
            · split at p <;> simp <;> try omega
            · rename_i hv
              split
              · simp
              · split
                · simp
                · rename_i h1 h2
                  unfold dp
                  split
                  · simp
                  · simp [Pc.no]
          show (pl (qp l :: (prs (l.drop (qu l))).1)).length ≤ _
          rw [e, List.length_append]
          omega
        · simp [pl]
      · rw [prs_err hl he]; simp [pl]
end Dr
end Go.Proofs.YtaadooippelcfaaDoor
