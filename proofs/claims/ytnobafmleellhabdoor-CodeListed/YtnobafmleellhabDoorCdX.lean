/-
  abacuslaw26: jumps; what a code that is taken keeps (mkcdv.py).
-/
import Derived.Test.YtnobafmleellhabDoorCdU
namespace Go.Proofs.YtnobafmleellhabDoor
open Go Go.RowKit Go.Deep Go.Shelf

theorem cjmp_any (k : Int) (w : World) : Calls Tryd.prog 8 #[.int .i64 k] w fun e w' => e = .returned (.tuple #[.bool (decide (k = 27 ∨ k = 28 ∨ k = 29)), .bool (decide (k ≠ 27))]) ∧ w' = w := by
  by_cases h1 : k = 27
  · subst h1
    go_enter Tryd.func8, Tryd.ntmps8
    go_wp2_with fail
    go_ret2
    exact ⟨rfl, rfl⟩
  by_cases h2 : k = 28
  · subst h2
    go_enter Tryd.func8, Tryd.ntmps8
    go_wp2_with fail
    go_ret2
    exact ⟨rfl, rfl⟩
  by_cases h3 : k = 29
  · subst h3
    go_enter Tryd.func8, Tryd.ntmps8
    go_wp2_with fail
    go_ret2
    exact ⟨rfl, rfl⟩
  rw [decide_eq_false (show ¬ (k = 27 ∨ k = 28 ∨ k = 29) by omega), decide_eq_true (show k ≠ 27 from h1)]
  go_enter Tryd.func8, Tryd.ntmps8
  go_wp2_with fail
  go_ret2
  exact ⟨rfl, rfl⟩
namespace Cd
/-- Conditions in memory. -/
def WB (w : World) (p : Option Addr) (l : List Bool) : Prop := ∀ i x, l[i]? = some x → ∃ b off, p = some ⟨b, off, none⟩ ∧ w.cell? ⟨b, off + i, none⟩ = some (.bool x)
theorem WB.below {w w' : World} {p : Option Addr} {l : List Bool} {B : Nat} (h : WB w p l) (hB : Below B w w') (hb : w.heap.size ≤ B) : WB w' p l := by
  intro i x hx
  obtain ⟨b, off, hp, c0⟩ := h i x hx
  exact ⟨b, off, hp, by rw [hB.cell (Nat.lt_of_lt_of_le (cell_lt c0) hb)]; exact c0⟩
theorem w28 {x : In} (h : x.w = 28) : (rx x).a = 3 := by unfold rx; rw [h]; rfl
theorem w29 {x : In} (h : x.w = 29) : (rx x).a = 3 := by unfold rx; rw [h]; rfl
theorem w1 {x : In} (h : x.w = 1) : (rx x).a = 1 := by unfold rx; rw [h]; rfl
theorem w2 {x : In} (h : x.w = 2) : (rx x).a = 2 := by unfold rx; rw [h]; rfl
theorem mx_le (hs : List Int) (i : Nat) : hs.getD i 0 ≤ mx hs := by
  have key : ∀ (l : List Int) (d : Int), d ≤ l.foldl max d ∧ ∀ z ∈ l, z ≤ l.foldl max d := by
    intro l
    induction l with
    | nil => intro d; exact ⟨Int.le_refl _, fun z hz => by cases hz⟩
    | cons a l ih =>
      intro d
      obtain ⟨h1, h2⟩ := ih (max d a)
      refine ⟨Int.le_trans (Int.le_max_left _ _) h1, fun z hz => ?_⟩
      rcases List.mem_cons.1 hz with e | e
      · rw [e]; exact Int.le_trans (Int.le_max_right _ _) h1
      · exact h2 z e
  by_cases hi : i < hs.length
  · refine (key hs 0).2 _ ?_
    rw [List.getD_eq_getElem?_getD, List.getElem?_eq_getElem hi]
    exact List.getElem_mem _
  · have : hs.getD i 0 = 0 := by rw [List.getD_eq_getElem?_getD, List.getElem?_eq_none (by omega)]; rfl
    rw [this]
    exact (key hs 0).1
theorem run_mem : ∀ {l : List In} {i : Nat} {hs hs' : List Int}, run l i hs = .inr hs' → (∀ x ∈ l, 0 ≤ pt x) → (∀ z ∈ hs, -1 ≤ z ∧ z ≤ 32768) → ∀ z ∈ hs', -1 ≤ z ∧ z ≤ 32768
  | [], i, hs, hs', hr, _, h => by rw [run] at hr; cases hr; exact h
  | x :: l, i, hs, hs', hr, hp, h => by
    rw [run] at hr
    have hp' : ∀ y ∈ l, 0 ≤ pt y := fun y hy => hp y (List.mem_cons_of_mem _ hy)
    by_cases c : hs.getD i 0 < 0
    · rw [if_pos c] at hr
      exact run_mem hr hp' h
    · rw [if_neg c] at hr
      cases e : ps x i hs with
      | none => rw [e] at hr; cases hr
      | some h1 =>
        rw [e] at hr
        exact run_mem hr hp' (ps_keeps e (hp x (List.mem_cons_self ..)) h).2
/-- What a code that is taken keeps, place by place. -/
structure GD (l : List In) (N S : Nat) (hs : List Int) (most : Int) : Prop where
  first : hs.getD 0 0 = 0
  last : hs.getD l.length 0 = 1
  small : l.length ≤ 131072
  top : ∀ i, 0 ≤ hs.getD i 0 → hs.getD i 0 ≤ most
  le : ∀ i, hs.getD i 0 ≤ 32768
  step : ∀ i x, l[i]? = some x → 0 ≤ hs.getD i 0 → ok x = true ∧ tk x ≤ hs.getD i 0 ∧ (x.w ≠ 27 → hs.getD (i + 1) 0 = hs.getD i 0 - tk x + pt x) ∧ ((rx x).a = 3 → (i : Int) < x.a ∧ x.a ≤ l.length ∧ hs.getD x.a.toNat 0 = hs.getD i 0 - tk x + pt x) ∧ ((rx x).a = 1 → x.a < N) ∧ ((rx x).a = 2 → x.a < S)
theorem gd_of {l : List In} {N S : Nat} (h : (chk l N S).2.2 = 0) : GD l N S (hts l N S).1 (chk l N S).1 := by
  rcases hts_err l N S with e | ⟨e, _⟩
  · obtain ⟨h1, hb, hs, hr, hl, eq⟩ := hts_ok e
    have hc := chk_ok e
    rw [hc, eq]
    have h0 := hts_first e
    rw [eq] at h0
    have fwd : ∀ j x, l[j]? = some x → fw (0 + j) l.length x := fun j x hx => by
      have r := bad_none hb j x hx
      have rk := rt_ok r
      exact ⟨rk.2.1, (tk_rng rk.1).2.2.1⟩
    have pp : ∀ x ∈ l, 0 ≤ pt x := fun x hx => by
      obtain ⟨j, hj⟩ := List.getElem?_of_mem hx
      exact (fwd j x hj).2
    refine ⟨h0, hl, by omega, fun i _ => mx_le _ _, fun i => ?_, fun i x hx hi => ?_⟩
    · by_cases hi : i < hs.length
      · have := run_mem hr pp (h0_mem _) (hs.getD i 0) (by rw [List.getD_eq_getElem?_getD, List.getElem?_eq_getElem hi]; exact List.getElem_mem _)
        exact this.2
      · have e0 : hs.getD i 0 = 0 := by rw [List.getD_eq_getElem?_getD, List.getElem?_eq_none (by omega)]; rfl
        show hs.getD i 0 ≤ 32768
        omega
    have r := bad_none hb i x hx
    rw [Nat.zero_add] at r
    have rk := rt_ok r
    have f := run_fact hr fwd (by omega) (h0_len _) i x hx (by rwa [Nat.zero_add])
    rw [Nat.zero_add] at f
    exact ⟨rk.1, f.1, f.2.1, fun a => ⟨(rk.2.1 a).1, (rk.2.1 a).2, f.2.2 a⟩, rk.2.2.1, rk.2.2.2⟩
  · rw [chk_no e] at h; exact absurd h (by show ¬ (260 : Int) = 0; decide)
end Cd
end Go.Proofs.YtnobafmleellhabDoor
