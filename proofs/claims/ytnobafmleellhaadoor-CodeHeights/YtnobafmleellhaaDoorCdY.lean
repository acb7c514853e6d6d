/-
  code: which places are reached; where a fault is told.
-/
import Derived.Test.YtnobafmleellhaaDoorCdX
namespace Go.Proofs.YtnobafmleellhaaDoor
open Go Go.RowKit Go.Deep Go.Shelf

namespace Cd
theorem bad_lt {n N S : Nat} : ∀ {l : List In} {k i : Nat}, bad n N S l k = some i → k ≤ i ∧ i < k + l.length
  | [], k, i, h => by rw [bad] at h; cases h
  | x :: l, k, i, h => by
    rw [bad] at h
    split at h
    · have := bad_lt h
      rw [List.length_cons]; omega
    · cases h
      rw [List.length_cons]; omega
theorem run_lt : ∀ {l : List In} {k i : Nat} {hs : List Int}, run l k hs = .inl i → k ≤ i ∧ i < k + l.length
  | [], k, i, hs, h => by rw [run] at h; cases h
  | x :: l, k, i, hs, h => by
    rw [run] at h
    rw [List.length_cons]
    by_cases c : hs.getD k 0 < 0
    · rw [if_pos c] at h
      have := run_lt h; omega
    · rw [if_neg c] at h
      cases e : ps x k hs with
      | none => rw [e] at h; cases h; omega
      | some h1 => rw [e] at h; have := run_lt h; omega
theorem hts_place {l : List In} {N S : Nat} (h : (hts l N S).2.2 = 260) : (l.length ≤ 131072 ∧ (hts l N S).2.1 ≤ l.length) ∨ (131072 < l.length ∧ (hts l N S).2.1 = 131072) := by
  by_cases h1 : 131072 < l.length
  · rw [hts_big h1]; exact .inr ⟨h1, rfl⟩
  · left
    refine ⟨by omega, ?_⟩
    cases h2 : bad l.length N S l 0 with
    | some i => rw [hts_bad h1 h2]; have := bad_lt h2; show i ≤ _; omega
    | none =>
      cases h3 : run l 0 (h0 l.length) with
      | inl i => rw [hts_run h1 h2 h3]; have := run_lt h3; show i ≤ _; omega
      | inr hs =>
        rw [hts_end h1 h2 h3] at h ⊢
        by_cases h4 : hs.getD l.length 0 = 1
        · rw [if_pos h4] at h; exact absurd h (by show ¬ (0 : Int) = 260; decide)
        · rw [if_neg h4]; exact Nat.le_refl _
/-- A way from a place. -/
def edg (x : In) (j q : Nat) : Prop := (x.w ≠ 27 ∧ q = j + 1) ∨ ((x.w = 27 ∨ x.w = 28 ∨ x.w = 29) ∧ x.a = q)
theorem tab_far : ∀ n : Nat, n < 34 → (row n).a = 3 → n = 27 ∨ n = 28 ∨ n = 29 := by decide
theorem far_w {x : In} (h : ok x = true) (a : (rx x).a = 3) : x.w = 27 ∨ x.w = 28 ∨ x.w = 29 := by
  obtain ⟨w1, w2, _⟩ := ok_ft h
  have := tab_far x.w.toNat (by omega) a
  omega
theorem gv_src {hs hs' : List Int} {p q : Nat} {h : Int} (he : gv hs p h = some hs') (e : 0 ≤ hs'.getD q 0) : 0 ≤ hs.getD q 0 ∨ q = p := by
  by_cases c : q = p
  · exact .inr c
  · rw [gv_far he c] at e; exact .inl e
theorem ps_src {x : In} {i q : Nat} {hs hs' : List Int} (he : ps x i hs = some hs') (hk : ok x = true) (ha : (rx x).a = 3 → (i : Int) < x.a) (e : 0 ≤ hs'.getD q 0) : 0 ≤ hs.getD q 0 ∨ edg x i q := by
  obtain ⟨_, _, c⟩ := ps_some he
  rcases c with ⟨w, a, g⟩ | ⟨w, a, g⟩ | ⟨w, a, h1, g1, g2⟩
  · rcases gv_src g e with z | z
    · exact .inl z
    · exact .inr (.inr ⟨.inl w, by have := ha a; omega⟩)
  · rcases gv_src g e with z | z
    · exact .inl z
    · exact .inr (.inl ⟨w, z⟩)
  · rcases gv_src g2 e with z | z
    · rcases gv_src g1 z with y | y
      · exact .inl y
      · exact .inr (.inl ⟨w, y⟩)
    · exact .inr (.inr ⟨far_w hk a, by have := ha a; omega⟩)
theorem run_src : ∀ {l : List In} {i n q : Nat} {hs hs' : List Int}, run l i hs = .inr hs' → (∀ j x, l[j]? = some x → fw (i + j) n x ∧ ok x = true) → 0 ≤ hs'.getD q 0 → 0 ≤ hs.getD q 0 ∨ ∃ j x, l[j]? = some x ∧ 0 ≤ hs'.getD (i + j) 0 ∧ edg x (i + j) q
  | [], i, n, q, hs, hs', hr, _, h => by rw [run] at hr; cases hr; exact .inl h
  | x :: l, i, n, q, hs, hs', hr, hf, h => by
    have hr0 := hr
    rw [run] at hr
    have hf' : ∀ j y, l[j]? = some y → fw (i + 1 + j) n y ∧ ok y = true := fun j y hy => by
      have := hf (j + 1) y (by simpa using hy)
      rwa [show i + (j + 1) = i + 1 + j by omega] at this
    have back : (∃ j y, l[j]? = some y ∧ 0 ≤ hs'.getD (i + 1 + j) 0 ∧ edg y (i + 1 + j) q) → ∃ j y, (x :: l)[j]? = some y ∧ 0 ≤ hs'.getD (i + j) 0 ∧ edg y (i + j) q := fun ⟨j, y, hy, e1, e2⟩ =>
      ⟨j + 1, y, by simpa using hy, by rwa [show i + (j + 1) = i + 1 + j by omega], by rwa [show i + (j + 1) = i + 1 + j by omega]⟩
    by_cases c : hs.getD i 0 < 0
    · rw [if_pos c] at hr
      rcases run_src hr hf' h with z | z
      · exact .inl z
      · exact .inr (back z)
    · rw [if_neg c] at hr
      cases e : ps x i hs with
      | none => rw [e] at hr; cases hr
      | some h1 =>
        rw [e] at hr
        rcases run_src hr hf' h with z | z
        · have f0 := hf 0 x rfl
          rcases ps_src e f0.2 (fun a => (f0.1.1 a).1) z with y | y
          · exact .inl y
          · refine .inr ⟨0, x, rfl, ?_, y⟩
            rw [Nat.add_zero, run_far hr0 (fun j y hy => (hf j y hy).1) (Nat.le_refl i)]
            omega
        · exact .inr (back z)
/-- What CodeHeights wants besides. -/
structure GR (l : List In) (hs : List Int) : Prop where
  len : hs.length = l.length + 1
  low : ∀ q, -1 ≤ hs.getD q 0
  src : ∀ q, 0 < q → 0 ≤ hs.getD q 0 → q ≤ l.length → ∃ j x, l[j]? = some x ∧ 0 ≤ hs.getD j 0 ∧ edg x j q
theorem gr_of {l : List In} {N S : Nat} (h : (hts l N S).2.2 = 0) : GR l (hts l N S).1 := by
  obtain ⟨h1, hb, hs, hr, hl, eq⟩ := hts_ok h
  rw [eq]
  have fwd : ∀ j x, l[j]? = some x → fw (0 + j) l.length x ∧ ok x = true := fun j x hx => by
    have rk := rt_ok (bad_none hb j x hx)
    exact ⟨⟨rk.2.1, (tk_rng rk.1).2.2.1⟩, rk.1⟩
  have pp : ∀ x ∈ l, 0 ≤ pt x := fun x hx => by
    obtain ⟨j, hj⟩ := List.getElem?_of_mem hx
    exact (fwd j x hj).1.2
  have hlen : hs.length = l.length + 1 := (run_len hr).trans (h0_len _)
  refine ⟨hlen, fun q => ?_, fun q q0 hq qn => ?_⟩
  · show -1 ≤ hs.getD q 0
    by_cases hi : q < hs.length
    · exact (run_mem hr pp (h0_mem _) (hs.getD q 0) (by rw [List.getD_eq_getElem?_getD, List.getElem?_eq_getElem hi]; exact List.getElem_mem _)).1
    · have e0 : hs.getD q 0 = 0 := by rw [List.getD_eq_getElem?_getD, List.getElem?_eq_none (by omega)]; rfl
      omega
  · rcases run_src hr fwd hq with z | ⟨j, x, hx, e1, e2⟩
    · exfalso
      obtain ⟨d, rfl⟩ : ∃ d, q = d + 1 := ⟨q - 1, by omega⟩
      have : (h0 l.length).getD (d + 1) 0 = -1 := by
        rw [h0, List.getD_cons_succ, List.getD_eq_getElem?_getD, List.getElem?_replicate, if_pos (by omega)]
        rfl
      omega
    · rw [Nat.zero_add] at e1 e2
      exact ⟨j, x, hx, e1, e2⟩
/-- The places known to be reached, ahead of place i. -/
def RI (l : List In) (hs : List Int) (i : Nat) (R : List Bool) : Prop := ∀ q, q ≤ l.length → (R.getD q false = true ↔ (q = 0 ∨ ∃ j x, j < i ∧ l[j]? = some x ∧ 0 ≤ hs.getD j 0 ∧ edg x j q))
theorem ri_first (l : List In) (hs : List Int) : RI l hs 0 ((List.replicate (l.length + 1) false).set 0 true) := fun q hq => by
  by_cases c : q = 0
  · subst c
    simp [List.replicate_succ]
  · rw [List.getD_eq_getElem?_getD, List.getElem?_set_ne (by omega), List.getElem?_replicate, if_pos (by omega)]
    simp only [Option.getD_some, Bool.false_eq_true, false_iff, not_or, not_exists, not_and]
    exact ⟨c, fun j x hj => by omega⟩
theorem ri_at {l : List In} {N S : Nat} {hs : List Int} {most : Int} {i : Nat} {R : List Bool} (h : RI l hs i R) (g : GD l N S hs most) (r : GR l hs) (hi : i ≤ l.length) : R.getD i false = decide (0 ≤ hs.getD i 0) := by
  have key : R.getD i false = true ↔ 0 ≤ hs.getD i 0 := by
    rw [h i hi]
    constructor
    · rintro (e | ⟨j, x, hj, hx, h0, e⟩)
      · rw [e, g.first]; exact Int.le_refl _
      · obtain ⟨ro, tk1, s1, s2, _⟩ := g.step j x hx h0
        have p0 := (tk_rng ro).2.2.1
        rcases e with ⟨w, e⟩ | ⟨w, e⟩
        · have := s1 w
          rw [e]; omega
        · have a3 : (rx x).a = 3 := by
            rcases w with w | w | w
            · exact w27 w
            · exact w28 w
            · exact w29 w
          have := (s2 a3).2.2
          rw [show i = x.a.toNat by omega]; omega
    · intro h0
      by_cases c : i = 0
      · exact .inl c
      · obtain ⟨j, x, hx, e1, e2⟩ := r.src i (by omega) h0 hi
        refine .inr ⟨j, x, ?_, hx, e1, e2⟩
        rcases e2 with ⟨_, e⟩ | ⟨w, e⟩
        · omega
        · obtain ⟨ro, _, _, s2, _⟩ := g.step j x hx e1
          have a3 : (rx x).a = 3 := by
            rcases w with w | w | w
            · exact w27 w
            · exact w28 w
            · exact w29 w
          have := (s2 a3).1
          omega
  cases c : R.getD i false with
  | true => exact (decide_eq_true (key.1 c)).symm
  | false => exact (decide_eq_false (fun z => by rw [key.2 z] at c; cases c)).symm
theorem ri_skip {l : List In} {hs : List Int} {i : Nat} {R : List Bool} (h : RI l hs i R) (h0 : ¬ 0 ≤ hs.getD i 0 ∨ l.length ≤ i) : RI l hs (i + 1) R := fun q hq => by
  rw [h q hq]
  refine or_congr_right ⟨fun ⟨j, x, hj, r⟩ => ⟨j, x, by omega, r⟩, fun ⟨j, x, hj, hx, r1, r2⟩ => ⟨j, x, ?_, hx, r1, r2⟩⟩
  by_cases c : j = i
  · subst c
    rcases h0 with z | z
    · exact absurd r1 z
    · have := (List.getElem?_eq_some_iff.1 hx).1; omega
  · omega
/-- Behind a place that is reached: its ways are marked. -/
theorem ri_step {l : List In} {hs : List Int} {i : Nat} {R R' : List Bool} {x : In} (h : RI l hs i R) (hx : l[i]? = some x) (h0 : 0 ≤ hs.getD i 0) (hR : ∀ q, q ≤ l.length → (R'.getD q false = true ↔ (R.getD q false = true ∨ edg x i q))) : RI l hs (i + 1) R' := fun q hq => by
  rw [hR q hq, h q hq]
  constructor
  · rintro ((e | ⟨j, y, hj, r⟩) | e)
    · exact .inl e
    · exact .inr ⟨j, y, by omega, r⟩
    · exact .inr ⟨i, x, by omega, hx, h0, e⟩
  · rintro (e | ⟨j, y, hj, hy, r1, r2⟩)
    · exact .inl (.inl e)
    · by_cases c : j = i
      · subst c
        rw [hx] at hy
        obtain rfl := Option.some.inj hy
        exact .inr r2
      · exact .inl (.inr ⟨j, y, by omega, hy, r1, r2⟩)
theorem getD_mark {R : List Bool} {p q : Nat} (hp : p < R.length) : (R.set p true).getD q false = true ↔ (R.getD q false = true ∨ q = p) := by
  by_cases c : q = p
  · subst c
    rw [List.getD_eq_getElem?_getD, List.getElem?_set_self hp]
    simp
  · rw [List.getD_eq_getElem?_getD, List.getElem?_set_ne (by omega), ← List.getD_eq_getElem?_getD]
    simp [c]
/-- Marks in memory. -/
def RB (w : World) (b : Nat) (R : List Bool) : Prop := Bx w b 4 (R.map Value.bool).toArray
theorem RB.cell {w : World} {b : Nat} {R : List Bool} (h : RB w b R) (i : Nat) (hi : i < R.length) : w.cell? ⟨b, i, none⟩ = some (.bool (R.getD i false)) := by
  refine Bx.cell h i _ ?_
  simp [List.getD, hi]
theorem RB.free {w : World} {b : Nat} {R : List Bool} (h : RB w b R) (i : Nat) : w.frozen? ⟨b, i, none⟩ = false := Bx.free h i
theorem RB.on {w w' : World} {b : Nat} {R : List Bool} (h : RB w b R) (hB : Below w.heap.size w w') : RB w' b R := Bx.on h hB
theorem RB.put {w : World} {b : Nat} {R : List Bool} (h : RB w b R) (i : Nat) (x : Bool) : RB (w.setCell ⟨b, i, none⟩ (.bool x)) b (R.set i x) := by
  have := Bx.set h i (.bool x)
  unfold RB
  rw [List.setIfInBounds_toArray, ← List.map_set] at this
  exact this
end Cd
theorem cd_infobool : (Tryd.prog.info? 4).map (fun i => (i.zero, i.size, i.bytes)) = some (some (.bool false), 1, 1) := by kernel_rfl
theorem cd_makeb (n : Nat) (h : n ≤ 1000000) (w : World) :
    (Instr.makeSlice 58 (.int .i64 (n : Int)) (.int .i64 (n : Int))).run Tryd.prog w = .ok (.slice (some ⟨w.heap.size, 0, none⟩) n n) (w.alloc (.cells (madeCells #[.bool false] n) 4)) :=
  run_make_row' 58 4 (.bool false) 1 Tryd.underlying58 cd_infobool rfl .i64 .i64 n (by omega) (by omega) w
theorem cd_madeb (n : Nat) : madeCells #[Value.bool false] n = ((List.replicate n false).map Value.bool).toArray := by
  apply Array.toList_inj.1
  rw [toList_madeCells_one]
  simp
end Go.Proofs.YtnobafmleellhaaDoor
