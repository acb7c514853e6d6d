/-
  ScanBuilds: what Number and Whole tell of a text that is made of parts (no walk).
-/
import Derived.Test.YtjghlpkjbfaoiaaDoorVMade
import Derived.Test.YtjghlpkjbfaoiaaDoorVOrd
namespace Go.Proofs.YtjghlpkjbfaoiaaDoor
namespace Sc

/-- The literal's own text. -/
def mtx (n : Int) (A B : List Int) (pt : Bool) (el : Option Int) (m : Int) (E : Nat) : List Int := sgT n ++ A ++ ((if pt = true then 46 :: B else []) ++ exL el m E)
def TailOk (tail : List Int) : Prop := dg (pk tail 0) = false ∧ pk tail 0 ≠ 46 ∧ isE (pk tail 0) = false ∧ pk tail 0 ≠ 43 ∧ pk tail 0 ≠ 45

theorem mtx_head (n : Int) (A B : List Int) (pt : Bool) (el : Option Int) (m : Int) (E : Nat) (tail : List Int) (hA : ∀ x ∈ A, dg x = true) (hne : A.length + (if pt = true then B.length else 0) ≠ 0) : bl (pk (mtx n A B pt el m E ++ tail) 0) = false := by
  rw [bl_not]
  unfold mtx
  by_cases h1 : n = 1
  · subst h1; show ¬ ((43 : Int) = 32 ∨ 9 ≤ (43 : Int) ∧ (43 : Int) ≤ 13); decide
  · by_cases h2 : n = 2
    · subst h2; show ¬ ((45 : Int) = 32 ∨ 9 ≤ (45 : Int) ∧ (45 : Int) ≤ 13); decide
    · have s0 : sgT n = [] := by unfold sgT; rw [if_neg h1, if_neg h2]
      rw [s0]
      cases A with
      | nil =>
        cases pt with
        | false => simp at hne
        | true => show ¬ ((46 : Int) = 32 ∨ 9 ≤ (46 : Int) ∧ (46 : Int) ≤ 13); decide
      | cons x l =>
        have := dg_iff.1 (hA x (by simp))
        show ¬ (x = 32 ∨ 9 ≤ x ∧ x ≤ 13)
        omega

theorem made_run (P A B tail : List Int) (n m : Int) (pt : Bool) (el : Option Int) (E : Nat) (hP : ∀ x ∈ P, bl x = true) (hA : ∀ x ∈ A, dg x = true) (hne : A.length + (if pt = true then B.length else 0) ≠ 0) : run bl (P ++ mtx n A B pt el m E ++ tail) 0 = P.length := by
  have := run_app bl0 (as' := []) (bs := P) (cs := mtx n A B pt el m E ++ tail) hP (mtx_head n A B pt el m E tail hA hne)
  rw [List.nil_append, ← List.append_assoc] at this
  exact this

theorem made_at (P A B tail : List Int) (n m : Int) (pt : Bool) (el : Option Int) (E : Nat) (hA : ∀ x ∈ A, dg x = true) (hB : ∀ x ∈ B, dg x = true) (hne : A.length + (if pt = true then B.length else 0) ≠ 0)
    (hel : ∀ c, el = some c → c = 101 ∨ c = 69) (ht : TailOk tail) : some? (P ++ mtx n A B pt el m E ++ tail) P.length ∧
    (lit (P ++ mtx n A B pt el m E ++ tail) P.length).d = nrm (decide (n = 2)) (A ++ (if pt = true then B else [])) (exS el m E - ((if pt = true then B else []).length : Int)) ∧
    (lit (P ++ mtx n A B pt el m E ++ tail) P.length).en = (P ++ mtx n A B pt el m E).length := by
  have e : P ++ mtx n A B pt el m E ++ tail = P ++ sgT n ++ A ++ ((if pt = true then 46 :: B else []) ++ (exL el m E ++ tail)) := by unfold mtx; simp only [List.append_assoc]
  obtain ⟨h1, h2⟩ := made_lit P A B tail n m pt el E hA hB hne hel ht
  rw [e, h2]
  refine ⟨h1, rfl, ?_⟩
  show (P ++ sgT n ++ A ++ ((if pt = true then 46 :: B else []) ++ exL el m E)).length = _
  unfold mtx
  simp only [List.append_assoc]

theorem made_ab (P A B tail : List Int) (n m : Int) (pt : Bool) (el : Option Int) (E : Nat) (hA : ∀ x ∈ A, dg x = true) (hB : ∀ x ∈ B, dg x = true) (hne : A.length + (if pt = true then B.length else 0) ≠ 0)
    (hel : ∀ c, el = some c → c = 101 ∨ c = 69) (ht : TailOk tail) : (lit (P ++ mtx n A B pt el m E ++ tail) P.length).ah.length + (lit (P ++ mtx n A B pt el m E ++ tail) P.length).bh.length ≤ A.length + B.length := by
  have e : P ++ mtx n A B pt el m E ++ tail = P ++ sgT n ++ A ++ ((if pt = true then 46 :: B else []) ++ (exL el m E ++ tail)) := by unfold mtx; simp only [List.append_assoc]
  obtain ⟨h1, h2⟩ := made_lit P A B tail n m pt el E hA hB hne hel ht
  rw [e, h2]
  show A.length + (if pt = true then B else []).length ≤ _
  split <;> simp

theorem mtx_len (n : Int) (A B : List Int) (pt : Bool) (el : Option Int) (m : Int) (E : Nat) (hd : (dl E).length ≤ 20) : (mtx n A B pt el m E).length ≤ A.length + B.length + 30 := by
  have h1 : ∀ k : Int, (sgT k).length ≤ 1 := fun k => by unfold sgT; split; (simp); split <;> simp
  have h2 : (exL el m E).length ≤ 22 := by
    have := h1 m
    cases el with
    | none => simp [exL]
    | some c => simp [exL]; omega
  have h3 : (if pt = true then 46 :: B else [] : List Int).length ≤ B.length + 1 := by split <;> simp
  have := h1 n
  unfold mtx
  simp only [List.length_append]
  omega

theorem made_num (P A B tail : List Int) (n m : Int) (pt : Bool) (el : Option Int) (E : Nat) (hP : ∀ x ∈ P, bl x = true) (hA : ∀ x ∈ A, dg x = true) (hB : ∀ x ∈ B, dg x = true) (hne : A.length + (if pt = true then B.length else 0) ≠ 0)
    (hel : ∀ c, el = some c → c = 101 ∨ c = 69) (ht : TailOk tail) :
    num (P ++ mtx n A B pt el m E ++ tail) = (nrm (decide (n = 2)) (A ++ (if pt = true then B else [])) (exS el m E - ((if pt = true then B else []).length : Int)), (P ++ mtx n A B pt el m E).length) := by
  obtain ⟨h1, h2, h3⟩ := made_at P A B tail n m pt el E hA hB hne hel ht
  unfold num
  rw [made_run P A B tail n m pt el E hP hA hne, if_pos h1, h2, h3]

theorem made_whl (P A B tail : List Int) (n m : Int) (pt : Bool) (el : Option Int) (E : Nat) (hP : ∀ x ∈ P, bl x = true) (hA : ∀ x ∈ A, dg x = true) (hB : ∀ x ∈ B, dg x = true) (hne : A.length + (if pt = true then B.length else 0) ≠ 0)
    (hel : ∀ c, el = some c → c = 101 ∨ c = 69) (ht : TailOk tail) (hb : ∀ x ∈ tail, bl x = true) :
    whl (P ++ mtx n A B pt el m E ++ tail) = (nrm (decide (n = 2)) (A ++ (if pt = true then B else [])) (exS el m E - ((if pt = true then B else []).length : Int)), true) := by
  obtain ⟨h1, h2, h3⟩ := made_at P A B tail n m pt el E hA hB hne hel ht
  have r : run bl (P ++ mtx n A B pt el m E ++ tail) (P ++ mtx n A B pt el m E).length = tail.length := by
    have := run_app bl0 (as' := P ++ mtx n A B pt el m E) (bs := tail) (cs := []) hb rfl
    rw [List.append_nil] at this
    exact this
  unfold whl
  rw [made_run P A B tail n m pt el E hP hA hne, if_pos ⟨h1, by rw [h3, r]; exact List.length_append.symm⟩, h2]

/-- A row of blanks may follow. -/
theorem TailOk.blanks {P : List Int} (h : ∀ x ∈ P, bl x = true) : TailOk P := by
  cases P with
  | nil => exact ⟨rfl, by decide, rfl, by decide, by decide⟩
  | cons x l =>
    have hx : bl x = true := h x (by simp)
    have : x = 32 ∨ (9 ≤ x ∧ x ≤ 13) := by simpa [bl] using hx
    refine ⟨?_, ?_, ?_, ?_, ?_⟩
    · show dg x = false; rw [dg_not]; omega
    · show x ≠ 46; omega
    · show isE x = false; simp [isE]; omega
    · show x ≠ 43; omega
    · show x ≠ 45; omega

/-- What built hands to Norm is a Dec. -/
theorem made_dec (A F : List Int) (e : Int) (hA : ∀ x ∈ A, dg x = true) (hF : ∀ x ∈ F, dg x = true) (h0 : A.length + F.length ≠ 0) (hl : A.length + F.length ≤ 281474976710655) (e0 : -1000000000000000 ≤ e) (e1 : e ≤ 1000000000000000) : IsDec (A ++ F) (e - (F.length : Int)) := by
  refine ⟨fun c => h0 (by rw [← List.length_append, c]; rfl), by omega, by omega, fun x hx => ?_, fun _ => ?_⟩
  · rcases List.mem_append.1 hx with h | h
    · exact hA x h
    · exact hF x h
  · have := tz_le (A ++ F)
    rw [List.length_append] at this
    omega
end Sc
end Go.Proofs.YtjghlpkjbfaoiaaDoor
