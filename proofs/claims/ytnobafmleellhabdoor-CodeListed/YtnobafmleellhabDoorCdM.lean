/-
  code: what the heights keep.
-/
import Derived.Test.YtnobafmleellhabDoorCdG
namespace Go.Proofs.YtnobafmleellhabDoor
open Go Go.RowKit Go.Deep

namespace Cd
theorem getD_set_ne {hs : List Int} {p q : Nat} {h : Int} (e : q ≠ p) : (hs.set p h).getD q 0 = hs.getD q 0 := by
  rw [List.getD_eq_getElem?_getD, List.getD_eq_getElem?_getD, List.getElem?_set_ne (by omega)]
theorem getD_set_eq {hs : List Int} {p : Nat} {h : Int} (e : p < hs.length) : (hs.set p h).getD p 0 = h := by
  rw [List.getD_eq_getElem?_getD, List.getElem?_set_self e]; rfl
theorem gv_cases {hs hs' : List Int} {p : Nat} {h : Int} (he : gv hs p h = some hs') : (hs.getD p 0 < 0 ∧ hs' = hs.set p h) ∨ (hs.getD p 0 = h ∧ hs' = hs) := by
  unfold gv at he
  by_cases a : hs.getD p 0 < 0
  · rw [if_pos a] at he; exact .inl ⟨a, (Option.some.inj he).symm⟩
  · rw [if_neg a] at he
    by_cases b : hs.getD p 0 = h
    · rw [if_pos b] at he; exact .inr ⟨b, (Option.some.inj he).symm⟩
    · rw [if_neg b] at he; cases he
theorem gv_far {hs hs' : List Int} {p q : Nat} {h : Int} (he : gv hs p h = some hs') (e : q ≠ p) : hs'.getD q 0 = hs.getD q 0 := by
  rcases gv_cases he with ⟨_, z⟩ | ⟨_, z⟩
  · rw [z, getD_set_ne e]
  · rw [z]
theorem gv_stay {hs hs' : List Int} {p q : Nat} {h : Int} (he : gv hs p h = some hs') (e : 0 ≤ hs.getD q 0) : hs'.getD q 0 = hs.getD q 0 := by
  rcases gv_cases he with ⟨a, z⟩ | ⟨_, z⟩
  · rw [z, getD_set_ne (fun y => by subst y; omega)]
  · rw [z]
theorem gv_val {hs hs' : List Int} {p : Nat} {h : Int} (he : gv hs p h = some hs') (e : p < hs.length) : hs'.getD p 0 = h := by
  rcases gv_cases he with ⟨a, z⟩ | ⟨a, z⟩
  · rw [z, getD_set_eq e]
  · rw [z, a]
/-- What an instruction at a place must be for its ways to go on forward. -/
def fw (i n : Nat) (x : In) : Prop := ((rx x).a = 3 → (i : Int) < x.a ∧ x.a ≤ n) ∧ 0 ≤ pt x
theorem ps_far {x : In} {i n q : Nat} {hs hs' : List Int} (he : ps x i hs = some hs') (hf : fw i n x) (hq : q ≤ i) : hs'.getD q 0 = hs.getD q 0 := by
  obtain ⟨_, _, c⟩ := ps_some he
  rcases c with ⟨_, a, g⟩ | ⟨_, _, g⟩ | ⟨_, a, h1, g1, g2⟩
  · exact gv_far g (by have := hf.1 a; omega)
  · exact gv_far g (by omega)
  · rw [gv_far g2 (by have := hf.1 a; omega), gv_far g1 (by omega)]
theorem ps_stay {x : In} {i q : Nat} {hs hs' : List Int} (he : ps x i hs = some hs') (hq : 0 ≤ hs.getD q 0) : hs'.getD q 0 = hs.getD q 0 := by
  obtain ⟨_, _, c⟩ := ps_some he
  rcases c with ⟨_, a, g⟩ | ⟨_, _, g⟩ | ⟨_, a, h1, g1, g2⟩
  · exact gv_stay g hq
  · exact gv_stay g hq
  · have e := gv_stay g1 hq
    rw [gv_stay g2 (by rw [e]; exact hq), e]
theorem ps_len {x : In} {i : Nat} {hs hs' : List Int} (he : ps x i hs = some hs') : hs'.length = hs.length := by
  obtain ⟨_, _, c⟩ := ps_some he
  rcases c with ⟨_, a, g⟩ | ⟨_, _, g⟩ | ⟨_, a, h1, g1, g2⟩
  · exact gv_len g
  · exact gv_len g
  · exact (gv_len g2).trans (gv_len g1)
theorem ps_val {x : In} {i n : Nat} {hs hs' : List Int} (he : ps x i hs = some hs') (hf : fw i n x) (hl : hs.length = n + 1) (hi : i < n) :
    (x.w ≠ 27 → hs'.getD (i + 1) 0 = hs.getD i 0 - tk x + pt x) ∧ ((rx x).a = 3 → hs'.getD x.a.toNat 0 = hs.getD i 0 - tk x + pt x) := by
  obtain ⟨t, _, c⟩ := ps_some he
  have p0 := hf.2
  rcases c with ⟨w, a, g⟩ | ⟨w, a, g⟩ | ⟨w, a, h1, g1, g2⟩
  · exact ⟨fun z => absurd w z, fun _ => gv_val g (by have := hf.1 a; omega)⟩
  · exact ⟨fun _ => gv_val g (by omega), fun z => absurd z a⟩
  · have e1 := gv_val g1 (by omega)
    have l1 := gv_len g1
    exact ⟨fun _ => by rw [gv_stay g2 (by rw [e1]; omega), e1], fun _ => gv_val g2 (by have := hf.1 a; omega)⟩
theorem run_far : ∀ {l : List In} {i n q : Nat} {hs hs' : List Int}, run l i hs = .inr hs' → (∀ j x, l[j]? = some x → fw (i + j) n x) → q ≤ i → hs'.getD q 0 = hs.getD q 0
  | [], i, n, q, hs, hs', hr, _, _ => by rw [run] at hr; cases hr; rfl
  | x :: l, i, n, q, hs, hs', hr, hf, hq => by
    rw [run] at hr
    have hf' : ∀ j y, l[j]? = some y → fw (i + 1 + j) n y := fun j y hy => by
      have := hf (j + 1) y (by simpa using hy)
      rwa [show i + (j + 1) = i + 1 + j by omega] at this
    by_cases h : hs.getD i 0 < 0
    · rw [if_pos h] at hr
      exact run_far hr hf' (by omega)
    · rw [if_neg h] at hr
      cases e : ps x i hs with
      | none => rw [e] at hr; cases hr
      | some h1 =>
        rw [e] at hr
        rw [run_far hr hf' (by omega), ps_far e (hf 0 x rfl) hq]
theorem run_stay : ∀ {l : List In} {i q : Nat} {hs hs' : List Int}, run l i hs = .inr hs' → 0 ≤ hs.getD q 0 → hs'.getD q 0 = hs.getD q 0
  | [], i, q, hs, hs', hr, _ => by rw [run] at hr; cases hr; rfl
  | x :: l, i, q, hs, hs', hr, hq => by
    rw [run] at hr
    by_cases h : hs.getD i 0 < 0
    · rw [if_pos h] at hr
      exact run_stay hr hq
    · rw [if_neg h] at hr
      cases e : ps x i hs with
      | none => rw [e] at hr; cases hr
      | some h1 =>
        rw [e] at hr
        have e1 := ps_stay e hq
        rw [run_stay hr (by rw [e1]; exact hq), e1]
theorem run_len : ∀ {l : List In} {i : Nat} {hs hs' : List Int}, run l i hs = .inr hs' → hs'.length = hs.length
  | [], i, hs, hs', hr => by rw [run] at hr; cases hr; rfl
  | x :: l, i, hs, hs', hr => by
    rw [run] at hr
    by_cases h : hs.getD i 0 < 0
    · rw [if_pos h] at hr
      exact run_len hr
    · rw [if_neg h] at hr
      cases e : ps x i hs with
      | none => rw [e] at hr; cases hr
      | some h1 =>
        rw [e] at hr
        rw [run_len hr, ps_len e]
/-- Each place that is reached is fit, and its ways lead to its height behind it. -/
theorem run_fact : ∀ {l : List In} {i n : Nat} {hs hs' : List Int}, run l i hs = .inr hs' → (∀ j x, l[j]? = some x → fw (i + j) n x) → i + l.length = n → hs.length = n + 1 → ∀ j x, l[j]? = some x → 0 ≤ hs'.getD (i + j) 0 →
    tk x ≤ hs'.getD (i + j) 0 ∧ (x.w ≠ 27 → hs'.getD (i + j + 1) 0 = hs'.getD (i + j) 0 - tk x + pt x) ∧ ((rx x).a = 3 → hs'.getD x.a.toNat 0 = hs'.getD (i + j) 0 - tk x + pt x)
  | [], i, n, hs, hs', _, _, _, _, j, x, hx, _ => by simp at hx
  | x :: l, i, n, hs, hs', hr, hf, hn, hl, j, y, hy, h0 => by
    have hr0 := hr
    rw [run] at hr
    have hf' : ∀ j y, l[j]? = some y → fw (i + 1 + j) n y := fun j y hy => by
      have := hf (j + 1) y (by simpa using hy)
      rwa [show i + (j + 1) = i + 1 + j by omega] at this
    rw [List.length_cons] at hn
    have key : ∀ h1, run l (i + 1) h1 = .inr hs' → h1.length = n + 1 → ∀ j y, l[j]? = some y → 0 ≤ hs'.getD (i + (j + 1)) 0 → tk y ≤ hs'.getD (i + (j + 1)) 0 ∧ (y.w ≠ 27 → hs'.getD (i + (j + 1) + 1) 0 = hs'.getD (i + (j + 1)) 0 - tk y + pt y) ∧ ((rx y).a = 3 → hs'.getD y.a.toNat 0 = hs'.getD (i + (j + 1)) 0 - tk y + pt y) := fun h1 hr1 hl1 j y hy h0 => by
      have := run_fact hr1 hf' (by omega) hl1 j y hy (by rwa [show i + 1 + j = i + (j + 1) by omega])
      rwa [show i + 1 + j = i + (j + 1) by omega] at this
    by_cases h : hs.getD i 0 < 0
    · rw [if_pos h] at hr
      cases j with
      | zero =>
        have := run_far hr0 hf (Nat.le_refl i)
        rw [Nat.add_zero] at h0
        omega
      | succ j => exact key hs hr hl j y (by simpa using hy) h0
    · rw [if_neg h] at hr
      cases e : ps x i hs with
      | none => rw [e] at hr; cases hr
      | some h1 =>
        rw [e] at hr
        cases j with
        | succ j => exact key h1 hr ((ps_len e).trans hl) j y (by simpa using hy) h0
        | zero =>
          obtain rfl : x = y := by simpa using hy
          have f0 := hf 0 x rfl
          rw [Nat.add_zero] at f0 h0 ⊢
          have ei := run_far hr0 hf (Nat.le_refl i)
          obtain ⟨v1, v2⟩ := ps_val e f0 hl (by omega)
          obtain ⟨t, _, _⟩ := ps_some e
          have p0 := f0.2
          refine ⟨by rw [ei]; exact t, fun w => ?_, fun a => ?_⟩
          · rw [run_far hr hf' (Nat.le_refl _), ei]
            exact v1 w
          · rw [run_stay hr (by rw [v2 a]; omega), ei]
            exact v2 a
theorem h0_at (n : Nat) : (h0 n).getD 0 0 = 0 := rfl
theorem hts_ok {l : List In} {N S : Nat} (h : (hts l N S).2.2 = 0) : ¬ 131072 < l.length ∧ bad l.length N S l 0 = none ∧ ∃ hs, run l 0 (h0 l.length) = .inr hs ∧ hs.getD l.length 0 = 1 ∧ hts l N S = (hs, 0, 0) := by
  by_cases h1 : 131072 < l.length
  · rw [hts_big h1] at h; exact absurd h (by show ¬ (260 : Int) = 0; decide)
  · cases h2 : bad l.length N S l 0 with
    | some i => rw [hts_bad h1 h2] at h; exact absurd h (by show ¬ (260 : Int) = 0; decide)
    | none =>
      cases h3 : run l 0 (h0 l.length) with
      | inl i => rw [hts_run h1 h2 h3] at h; exact absurd h (by show ¬ (260 : Int) = 0; decide)
      | inr hs =>
        rw [hts_end h1 h2 h3] at h
        by_cases h4 : hs.getD l.length 0 = 1
        · exact ⟨h1, rfl, hs, rfl, h4, by rw [hts_end h1 h2 h3, if_pos h4]⟩
        · rw [if_neg h4] at h; exact absurd h (by show ¬ (260 : Int) = 0; decide)
theorem hts_err (l : List In) (N S : Nat) : (hts l N S).2.2 = 0 ∨ (hts l N S).2.2 = 260 ∧ (hts l N S).1 = [] := by
  by_cases h1 : 131072 < l.length
  · rw [hts_big h1]; exact .inr ⟨rfl, rfl⟩
  · cases h2 : bad l.length N S l 0 with
    | some i => rw [hts_bad h1 h2]; exact .inr ⟨rfl, rfl⟩
    | none =>
      cases h3 : run l 0 (h0 l.length) with
      | inl i => rw [hts_run h1 h2 h3]; exact .inr ⟨rfl, rfl⟩
      | inr hs =>
        rw [hts_end h1 h2 h3]
        by_cases h4 : hs.getD l.length 0 = 1
        · rw [if_pos h4]; exact .inl rfl
        · rw [if_neg h4]; exact .inr ⟨rfl, rfl⟩
theorem hts_first {l : List In} {N S : Nat} (h : (hts l N S).2.2 = 0) : (hts l N S).1.getD 0 0 = 0 := by
  obtain ⟨_, _, hs, hr, _, e⟩ := hts_ok h
  rw [e]
  show hs.getD 0 0 = 0
  rw [run_stay hr (by rw [h0_at]; omega), h0_at]
theorem mx_take {hs : List Int} {k : Nat} (h : k < hs.length) : (hs.take (k + 1)).foldl max 0 = max ((hs.take k).foldl max 0) (hs.getD k 0) := by
  rw [List.take_succ_eq_append_getElem h, List.foldl_append]
  simp [List.getD, h]
end Cd
end Go.Proofs.YtnobafmleellhabDoor
