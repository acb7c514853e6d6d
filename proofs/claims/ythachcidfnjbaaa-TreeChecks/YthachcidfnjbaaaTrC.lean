/-
  tree: fits (mktrc.py).
-/
import Derived.Test.YthachcidfnjbaaaTrB
namespace Go.Proofs.Ythachcidfnjbaaa
open Go Go.RowKit Go.Deep

set_option maxRecDepth 100000 in
set_option maxHeartbeats 16000000 in
theorem tfits_any (k p q n m : Int) (s : ByteArray) (r : Tr.Rl) (w : World) : Calls Try.prog 25 #[.agg #[.int .i64 k, .int .i64 p, .int .i64 q, .int .i64 n, .int .u64 m, .string s], .agg #[.int .i64 r.ops, .int .i64 r.refs, .int .i64 r.least, .int .i64 r.most, .bool r.num, .bool r.str, .int .i64 r.target]] w fun e w' => e = .returned (.bool (decide (Tr.fit ⟨k, p, q, n, m, s⟩ r))) ∧ Below w.heap.size w w' := by
  obtain ⟨R1, R2, R3, R4, R5, R6, R7⟩ := r
  obtain ⟨wi, hwi⟩ : ∃ wi : Int → Int → Int → Bool, ∀ x l h, wi x l h = decide (l ≤ x ∧ x ≤ h) := ⟨fun x l h => decide (l ≤ x ∧ x ≤ h), fun _ _ _ => rfl⟩
  have WI : Hid (∀ (x l h : Int) (w : World), Calls Try.prog 29 #[.int .i64 x, .int .i64 l, .int .i64 h] w fun e w' => e = .returned (.bool (wi x l h)) ∧ w' = w) := fun x l h w => by rw [hwi]; exact twith_any x l h w
  have B := hid (alloc_b3 w (.cells #[.int .i64 k, .int .i64 p, .int .i64 q, .int .i64 n, .int .u64 m, .string s] 34) (.cells #[.int .i64 R1, .int .i64 R2, .int .i64 R3, .int .i64 R4, .bool R5, .bool R6, .int .i64 R7] 53))
  have D : ∀ z : Bool, ((min 1 R1 ≤ p ∧ p ≤ R1 ∧ 0 ≤ q ∧ q ≤ R2 ∧ R3 ≤ n ∧ n ≤ R4 ∧ (R5 = true ∨ m = 0) ∧ (R6 = true ∨ s.toList = [])) ↔ z = true) → decide (Tr.fit ⟨k, p, q, n, m, s⟩ ⟨R1, R2, R3, R4, R5, R6, R7⟩) = z := fun z hz => by
    cases z with
    | true => exact decide_eq_true (hz.2 rfl)
    | false => exact decide_eq_false (fun y => Bool.false_ne_true (hz.1 y))
  generalize decide (Tr.fit ⟨k, p, q, n, m, s⟩ ⟨R1, R2, R3, R4, R5, R6, R7⟩) = R at *
  by_cases hR : R1 < 1
  · have em : min 1 R1 = R1 := by omega
    rw [em] at D
    clear em
    by_cases h1 : R1 ≤ p ∧ p ≤ R1
    · have H1 : wi p R1 R1 = true := by rw [hwi]; exact decide_eq_true h1
      by_cases h2 : 0 ≤ q ∧ q ≤ R2
      · have H2 : wi q 0 R2 = true := by rw [hwi]; exact decide_eq_true h2
        by_cases h3 : R3 ≤ n ∧ n ≤ R4
        · have H3 : wi n R3 R4 = true := by rw [hwi]; exact decide_eq_true h3
          cases R5 with
          | true =>
            cases R6 with
            | true =>
              have e := D true ⟨fun _ => rfl, fun _ => ⟨h1.1, h1.2, h2.1, h2.2, h3.1, h3.2, .inl rfl, .inl rfl⟩⟩
              subst e
              clear hwi D h1 h2 h3
              go_enter Try.func25, Try.ntmps25
              go_wp2_with (go_at_call 29; refine (WI.out _ _ _ _).mono ?_; rintro e w2 ⟨rfl, rfl⟩)
              go_ret
              exact ⟨rfl, B.out⟩
            | false =>
              by_cases hs : s.toList = []
              · have e := D true ⟨fun _ => rfl, fun _ => ⟨h1.1, h1.2, h2.1, h2.2, h3.1, h3.2, .inl rfl, .inr hs⟩⟩
                have NE2 : s.toList.isEmpty = true := by rw [hs]; rfl
                subst e
                clear hwi D h1 h2 h3
                go_enter Try.func25, Try.ntmps25
                go_wp2_with (go_at_call 29; refine (WI.out _ _ _ _).mono ?_; rintro e w2 ⟨rfl, rfl⟩)
                go_ret
                exact ⟨rfl, B.out⟩
              · have e := D false ⟨fun y => by rcases y.2.2.2.2.2.2.2 with z | z; cases z; exact absurd z hs, fun y => by cases y⟩
                have NE2 : s.toList.isEmpty = false := by cases h : s.toList with | nil => exact absurd h hs | cons c l => rfl
                subst e
                clear hwi D h1 h2 h3
                go_enter Try.func25, Try.ntmps25
                go_wp2_with (go_at_call 29; refine (WI.out _ _ _ _).mono ?_; rintro e w2 ⟨rfl, rfl⟩)
                go_ret
                exact ⟨rfl, B.out⟩
          | false =>
            by_cases hm : m = 0
            · subst hm
              cases R6 with
              | true =>
                have e := D true ⟨fun _ => rfl, fun _ => ⟨h1.1, h1.2, h2.1, h2.2, h3.1, h3.2, .inr rfl, .inl rfl⟩⟩
                subst e
                clear hwi D h1 h2 h3
                go_enter Try.func25, Try.ntmps25
                go_wp2_with (go_at_call 29; refine (WI.out _ _ _ _).mono ?_; rintro e w2 ⟨rfl, rfl⟩)
                go_ret
                exact ⟨rfl, B.out⟩
              | false =>
                by_cases hs : s.toList = []
                · have e := D true ⟨fun _ => rfl, fun _ => ⟨h1.1, h1.2, h2.1, h2.2, h3.1, h3.2, .inr rfl, .inr hs⟩⟩
                  have NE2 : s.toList.isEmpty = true := by rw [hs]; rfl
                  subst e
                  clear hwi D h1 h2 h3
                  go_enter Try.func25, Try.ntmps25
                  go_wp2_with (go_at_call 29; refine (WI.out _ _ _ _).mono ?_; rintro e w2 ⟨rfl, rfl⟩)
                  go_ret
                  exact ⟨rfl, B.out⟩
                · have e := D false ⟨fun y => by rcases y.2.2.2.2.2.2.2 with z | z; cases z; exact absurd z hs, fun y => by cases y⟩
                  have NE2 : s.toList.isEmpty = false := by cases h : s.toList with | nil => exact absurd h hs | cons c l => rfl
                  subst e
                  clear hwi D h1 h2 h3
                  go_enter Try.func25, Try.ntmps25
                  go_wp2_with (go_at_call 29; refine (WI.out _ _ _ _).mono ?_; rintro e w2 ⟨rfl, rfl⟩)
                  go_ret
                  exact ⟨rfl, B.out⟩
            · have e := D false ⟨fun y => by rcases y.2.2.2.2.2.2.1 with z | z; cases z; exact absurd z hm, fun y => by cases y⟩
              subst e
              clear hwi D h1 h2 h3
              go_enter Try.func25, Try.ntmps25
              go_wp2_with (go_at_call 29; refine (WI.out _ _ _ _).mono ?_; rintro e w2 ⟨rfl, rfl⟩)
              go_ret
              exact ⟨rfl, B.out⟩
        · have e := D false ⟨fun y => absurd ⟨y.2.2.2.2.1, y.2.2.2.2.2.1⟩ h3, fun y => by cases y⟩
          have H3 : wi n R3 R4 = false := by rw [hwi]; exact decide_eq_false h3
          subst e
          clear hwi D h1 h2 h3
          go_enter Try.func25, Try.ntmps25
          go_wp2_with (go_at_call 29; refine (WI.out _ _ _ _).mono ?_; rintro e w2 ⟨rfl, rfl⟩)
          go_ret
          exact ⟨rfl, B.out⟩
      · have e := D false ⟨fun y => absurd ⟨y.2.2.1, y.2.2.2.1⟩ h2, fun y => by cases y⟩
        have H2 : wi q 0 R2 = false := by rw [hwi]; exact decide_eq_false h2
        subst e
        clear hwi D h1 h2
        go_enter Try.func25, Try.ntmps25
        go_wp2_with (go_at_call 29; refine (WI.out _ _ _ _).mono ?_; rintro e w2 ⟨rfl, rfl⟩)
        go_ret
        exact ⟨rfl, B.out⟩
    · have e := D false ⟨fun y => absurd ⟨y.1, y.2.1⟩ h1, fun y => by cases y⟩
      have H1 : wi p R1 R1 = false := by rw [hwi]; exact decide_eq_false h1
      subst e
      clear hwi D h1
      go_enter Try.func25, Try.ntmps25
      go_wp2_with (go_at_call 29; refine (WI.out _ _ _ _).mono ?_; rintro e w2 ⟨rfl, rfl⟩)
      go_ret
      exact ⟨rfl, B.out⟩
  · have em : min 1 R1 = 1 := by omega
    rw [em] at D
    clear em
    by_cases h1 : 1 ≤ p ∧ p ≤ R1
    · have H1 : wi p 1 R1 = true := by rw [hwi]; exact decide_eq_true h1
      by_cases h2 : 0 ≤ q ∧ q ≤ R2
      · have H2 : wi q 0 R2 = true := by rw [hwi]; exact decide_eq_true h2
        by_cases h3 : R3 ≤ n ∧ n ≤ R4
        · have H3 : wi n R3 R4 = true := by rw [hwi]; exact decide_eq_true h3
          cases R5 with
          | true =>
            cases R6 with
            | true =>
              have e := D true ⟨fun _ => rfl, fun _ => ⟨h1.1, h1.2, h2.1, h2.2, h3.1, h3.2, .inl rfl, .inl rfl⟩⟩
              subst e
              clear hwi D h1 h2 h3
              go_enter Try.func25, Try.ntmps25
              go_wp2_with (go_at_call 29; refine (WI.out _ _ _ _).mono ?_; rintro e w2 ⟨rfl, rfl⟩)
              go_ret
              exact ⟨rfl, B.out⟩
            | false =>
              by_cases hs : s.toList = []
              · have e := D true ⟨fun _ => rfl, fun _ => ⟨h1.1, h1.2, h2.1, h2.2, h3.1, h3.2, .inl rfl, .inr hs⟩⟩
                have NE2 : s.toList.isEmpty = true := by rw [hs]; rfl
                subst e
                clear hwi D h1 h2 h3
                go_enter Try.func25, Try.ntmps25
                go_wp2_with (go_at_call 29; refine (WI.out _ _ _ _).mono ?_; rintro e w2 ⟨rfl, rfl⟩)
                go_ret
                exact ⟨rfl, B.out⟩
              · have e := D false ⟨fun y => by rcases y.2.2.2.2.2.2.2 with z | z; cases z; exact absurd z hs, fun y => by cases y⟩
                have NE2 : s.toList.isEmpty = false := by cases h : s.toList with | nil => exact absurd h hs | cons c l => rfl
                subst e
                clear hwi D h1 h2 h3
                go_enter Try.func25, Try.ntmps25
                go_wp2_with (go_at_call 29; refine (WI.out _ _ _ _).mono ?_; rintro e w2 ⟨rfl, rfl⟩)
                go_ret
                exact ⟨rfl, B.out⟩
          | false =>
            by_cases hm : m = 0
            · subst hm
              cases R6 with
              | true =>
                have e := D true ⟨fun _ => rfl, fun _ => ⟨h1.1, h1.2, h2.1, h2.2, h3.1, h3.2, .inr rfl, .inl rfl⟩⟩
                subst e
                clear hwi D h1 h2 h3
                go_enter Try.func25, Try.ntmps25
                go_wp2_with (go_at_call 29; refine (WI.out _ _ _ _).mono ?_; rintro e w2 ⟨rfl, rfl⟩)
                go_ret
                exact ⟨rfl, B.out⟩
              | false =>
                by_cases hs : s.toList = []
                · have e := D true ⟨fun _ => rfl, fun _ => ⟨h1.1, h1.2, h2.1, h2.2, h3.1, h3.2, .inr rfl, .inr hs⟩⟩
                  have NE2 : s.toList.isEmpty = true := by rw [hs]; rfl
                  subst e
                  clear hwi D h1 h2 h3
                  go_enter Try.func25, Try.ntmps25
                  go_wp2_with (go_at_call 29; refine (WI.out _ _ _ _).mono ?_; rintro e w2 ⟨rfl, rfl⟩)
                  go_ret
                  exact ⟨rfl, B.out⟩
                · have e := D false ⟨fun y => by rcases y.2.2.2.2.2.2.2 with z | z; cases z; exact absurd z hs, fun y => by cases y⟩
                  have NE2 : s.toList.isEmpty = false := by cases h : s.toList with | nil => exact absurd h hs | cons c l => rfl
                  subst e
                  clear hwi D h1 h2 h3
                  go_enter Try.func25, Try.ntmps25
                  go_wp2_with (go_at_call 29; refine (WI.out _ _ _ _).mono ?_; rintro e w2 ⟨rfl, rfl⟩)
                  go_ret
                  exact ⟨rfl, B.out⟩
            · have e := D false ⟨fun y => by rcases y.2.2.2.2.2.2.1 with z | z; cases z; exact absurd z hm, fun y => by cases y⟩
              subst e
              clear hwi D h1 h2 h3
              go_enter Try.func25, Try.ntmps25
              go_wp2_with (go_at_call 29; refine (WI.out _ _ _ _).mono ?_; rintro e w2 ⟨rfl, rfl⟩)
              go_ret
              exact ⟨rfl, B.out⟩
        · have e := D false ⟨fun y => absurd ⟨y.2.2.2.2.1, y.2.2.2.2.2.1⟩ h3, fun y => by cases y⟩
          have H3 : wi n R3 R4 = false := by rw [hwi]; exact decide_eq_false h3
          subst e
          clear hwi D h1 h2 h3
          go_enter Try.func25, Try.ntmps25
          go_wp2_with (go_at_call 29; refine (WI.out _ _ _ _).mono ?_; rintro e w2 ⟨rfl, rfl⟩)
          go_ret
          exact ⟨rfl, B.out⟩
      · have e := D false ⟨fun y => absurd ⟨y.2.2.1, y.2.2.2.1⟩ h2, fun y => by cases y⟩
        have H2 : wi q 0 R2 = false := by rw [hwi]; exact decide_eq_false h2
        subst e
        clear hwi D h1 h2
        go_enter Try.func25, Try.ntmps25
        go_wp2_with (go_at_call 29; refine (WI.out _ _ _ _).mono ?_; rintro e w2 ⟨rfl, rfl⟩)
        go_ret
        exact ⟨rfl, B.out⟩
    · have e := D false ⟨fun y => absurd ⟨y.1, y.2.1⟩ h1, fun y => by cases y⟩
      have H1 : wi p 1 R1 = false := by rw [hwi]; exact decide_eq_false h1
      subst e
      clear hwi D h1
      go_enter Try.func25, Try.ntmps25
      go_wp2_with (go_at_call 29; refine (WI.out _ _ _ _).mono ?_; rintro e w2 ⟨rfl, rfl⟩)
      go_ret
      exact ⟨rfl, B.out⟩
end Go.Proofs.Ythachcidfnjbaaa
