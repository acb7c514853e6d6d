/-
  abacusref13's Check (mkdrefk.py).
-/
import Derived.Test.YtaadooippelcfaaDoorDRefC
import Derived.Deep.DeepCutAuto
namespace Go.Proofs.YtaadooippelcfaaDoor
open Go Go.RowKit Go.Deep Go.Shelf

theorem okN_by (p : Dr.Pc) : okN p = if decide (Dr.isT p) = true then 0 else if decide (Dr.isP p) = true then 0 else if decide (Dr.isR p) = true then 0 else 132 := by
  unfold okN Dr.ok
  by_cases t : Dr.isT p <;> by_cases q : Dr.isP p <;> by_cases r : Dr.isR p <;> simp [t, q, r]

set_option maxRecDepth 100000 in
set_option maxHeartbeats 4000000 in
theorem rcheck_any (s : ByteArray) (xs : List Int) (v f a b c d : Int) (w : World) (hs : Str s xs) (hl : xs.length ≤ 140737488355328) :
    Calls Tryd.prog 16 #[.agg #[.string s, .int .u8 v, .int .i64 f, .int .i64 a, .int .i64 b, .int .i64 c, .int .i64 d]] w fun e w' => e = .returned (.int .i64 (okN ⟨xs, v, f, a, b, c, d⟩)) ∧ Below w.heap.size w w' := by
  have N0 := hid (str_nil2 hs)
  have IX := hid (fun W => rat_any s xs 37 W hs hl)
  have R := hid (fun W => rdirective_any s xs v f a b c d W hs)
  have B := hid (alloc_b w (.cells #[.string s, .int .u8 v, .int .i64 f, .int .i64 a, .int .i64 b, .int .i64 c, .int .i64 d] 25))
  have E := okN_by ⟨xs, v, f, a, b, c, d⟩
  have UT : Dr.isT ⟨xs, v, f, a, b, c, d⟩ ↔ (xs ≠ [] ∧ v = 0 ∧ f = 0 ∧ a = 0 ∧ b = 0 ∧ c = 0 ∧ d = 0 ∧ Dr.idx xs 37 < 0) := Iff.rfl
  have UP : Dr.isP ⟨xs, v, f, a, b, c, d⟩ ↔ (xs = [] ∧ v = 37 ∧ f = 0 ∧ a = 0 ∧ b = 0 ∧ c = 0 ∧ d = 0) := Iff.rfl
  have TT := hid (fun (q : Bool) (h : (xs ≠ [] ∧ v = 0 ∧ f = 0 ∧ a = 0 ∧ b = 0 ∧ c = 0 ∧ d = 0 ∧ Dr.idx xs 37 < 0) ↔ q = true) => dec_of (UT.trans h))
  have PP := hid (fun (q : Bool) (h : (xs = [] ∧ v = 37 ∧ f = 0 ∧ a = 0 ∧ b = 0 ∧ c = 0 ∧ d = 0) ↔ q = true) => dec_of (UP.trans h))
  clear UT UP hs hl
  generalize okN ⟨xs, v, f, a, b, c, d⟩ = K at *
  generalize decide (Dr.isR ⟨xs, v, f, a, b, c, d⟩) = r at *
  generalize decide (Dr.isT ⟨xs, v, f, a, b, c, d⟩) = tt at *
  generalize decide (Dr.isP ⟨xs, v, f, a, b, c, d⟩) = pp at *
  generalize Dr.idx xs 37 = i at *
  obtain ⟨br, hbr⟩ : ∃ br : Bool, decide (f = 0 ∧ a = 0 ∧ b = 0 ∧ c = 0 ∧ d = 0) = br := ⟨_, rfl⟩
  have BR := hid hbr
  have E := hid E
  clear hbr
  go_enter Tryd.func16, Tryd.ntmps16
  go_upto_region 1 with fail
  go_cut [3] (fun v' wx => v' = .bool br ∧ wx = w.alloc (.cells #[.string s, .int .u8 v, .int .i64 f, .int .i64 a, .int .i64 b, .int .i64 c, .int .i64 d] 25))
  case first =>
    clear E TT PP IX R N0
    by_cases h_f : f = 0
    · subst h_f
      by_cases h_a : a = 0
      · subst h_a
        by_cases h_b : b = 0
        · subst h_b
          by_cases h_c : c = 0
          · subst h_c
            by_cases h_d : d = 0
            · subst h_d
              have e : br = true := BR.out.symm.trans (decide_eq_true ⟨rfl, rfl, rfl, rfl, rfl⟩)
              subst e
              clear BR
              go_wp2_with fail
              go_meet
              exact ⟨rfl, rfl⟩
            · have z_d : (d == 0) = false := by simpa using h_d
              have e : br = false := BR.out.symm.trans (decide_eq_false (fun z => h_d z.2.2.2.2))
              subst e
              clear BR h_d
              go_wp2_with fail
              go_meet
              exact ⟨rfl, rfl⟩
          · have z_c : (c == 0) = false := by simpa using h_c
            have e : br = false := BR.out.symm.trans (decide_eq_false (fun z => h_c z.2.2.2.1))
            subst e
            clear BR h_c
            go_wp2_with fail
            go_meet
            exact ⟨rfl, rfl⟩
        · have z_b : (b == 0) = false := by simpa using h_b
          have e : br = false := BR.out.symm.trans (decide_eq_false (fun z => h_b z.2.2.1))
          subst e
          clear BR h_b
          go_wp2_with fail
          go_meet
          exact ⟨rfl, rfl⟩
      · have z_a : (a == 0) = false := by simpa using h_a
        have e : br = false := BR.out.symm.trans (decide_eq_false (fun z => h_a z.2.1))
        subst e
        clear BR h_a
        go_wp2_with fail
        go_meet
        exact ⟨rfl, rfl⟩
    · have z_f : (f == 0) = false := by simpa using h_f
      have e : br = false := BR.out.symm.trans (decide_eq_false (fun z => h_f z.1))
      subst e
      clear BR h_f
      go_wp2_with fail
      go_meet
      exact ⟨rfl, rfl⟩
  case rest =>
  obtain ⟨h3, hwc⟩ := hcut
  subst hwc
  subst h3
  have NE1 : xs = [] → s.toList.isEmpty = true := fun h => by rw [N0.out.2 h]; rfl
  have NE0 : xs ≠ [] → s.toList.isEmpty = false := fun h => by cases q : s.toList with | nil => exact absurd (N0.out.1 q) h | cons c l => rfl
  have NL1 : xs = [] → s.toList = [] := N0.out.2
  have NL0 : xs ≠ [] → ¬ s.toList = [] := fun h q => h (N0.out.1 q)
  have NE1 := hid NE1
  have NE0 := hid NE0
  have NL1 := hid NL1
  have NL0 := hid NL0
  clear N0
  go_upto_region 2 with fail
  go_cut [43] (fun v' wx => v' = .bool tt ∧ wx = w.alloc (.cells #[.string s, .int .u8 v, .int .i64 f, .int .i64 a, .int .i64 b, .int .i64 c, .int .i64 d] 25))
  case first =>
    clear E PP R
    by_cases v0 : v = 0
    · cases br with
      | false =>
        have F : Hid (tt = false) := TT.out false (by
          have bf := of_decide_eq_false BR.out
          constructor
          · intro z; exact absurd ⟨z.2.2.1, z.2.2.2.1, z.2.2.2.2.1, z.2.2.2.2.2.1, z.2.2.2.2.2.2.1⟩ bf
          · intro z; cases z)
        subst v0
        clear TT BR
        go_wp2_with (go_at_call 26; refine (IX.out _).mono ?_; rintro e w2 ⟨rfl, hw2⟩; rw [hw2]; clear hw2 w2)
        go_meet
        exact ⟨by rw [F.out], rfl⟩
      | true =>
        by_cases hx : xs = []
        · have F : Hid (tt = false) := TT.out false (by
            constructor
            · intro z; exact absurd hx z.1
            · intro z; cases z)
          have NE := NE1.out hx
          have NL := NL1.out hx
          subst v0
          clear TT BR hx
          go_wp2_with (go_at_call 26; refine (IX.out _).mono ?_; rintro e w2 ⟨rfl, hw2⟩; rw [hw2]; clear hw2 w2)
          go_meet
          exact ⟨by rw [F.out], rfl⟩
        · have F : Hid (tt = decide (i < 0)) := TT.out _ (by
            have bt := of_decide_eq_true BR.out
            rw [decide_eq_true_eq]
            exact ⟨fun z => z.2.2.2.2.2.2.2, fun z => ⟨hx, v0, bt.1, bt.2.1, bt.2.2.1, bt.2.2.2.1, bt.2.2.2.2, z⟩⟩)
          have NE := NE0.out hx
          have NL := NL0.out hx
          subst v0
          clear TT BR hx
          go_wp2_with (go_at_call 26; refine (IX.out _).mono ?_; rintro e w2 ⟨rfl, hw2⟩; rw [hw2]; clear hw2 w2)
          go_meet
          exact ⟨by rw [F.out], rfl⟩
    · have u0 : (v == 0) = false := by simpa using v0
      have F : Hid (tt = false) := TT.out false (by
        constructor
        · intro z; exact absurd z.2.1 v0
        · intro z; cases z)
      clear TT BR v0
      go_wp2_with (go_at_call 26; refine (IX.out _).mono ?_; rintro e w2 ⟨rfl, hw2⟩; rw [hw2]; clear hw2 w2)
      go_meet
      exact ⟨by rw [F.out], rfl⟩
  case rest =>
  obtain ⟨h43, hwc⟩ := hcut
  subst hwc
  subst h43
  cases tt with
  | true =>
    have F : Hid (K = 0) := E.out.trans (if_pos rfl)
    clear E TT PP R IX BR
    go_wp2_with fail
    go_ret
    exact ⟨by first | rfl | (rw [F.out]; rfl), B.out⟩
  | false =>
  go_upto_region 4 with fail
  go_cut [54] (fun v' wx => v' = .bool pp ∧ wx = w.alloc (.cells #[.string s, .int .u8 v, .int .i64 f, .int .i64 a, .int .i64 b, .int .i64 c, .int .i64 d] 25))
  case first =>
    clear E TT R IX
    by_cases v0 : v = 37
    · cases br with
      | false =>
        have F : Hid (pp = false) := PP.out false (by
          have bf := of_decide_eq_false BR.out
          constructor
          · intro z; exact absurd ⟨z.2.2.1, z.2.2.2.1, z.2.2.2.2.1, z.2.2.2.2.2.1, z.2.2.2.2.2.2⟩ bf
          · intro z; cases z)
        subst v0
        clear PP BR
        go_wp2_with fail
        go_meet
        exact ⟨by rw [F.out], rfl⟩
      | true =>
        by_cases hx : xs = []
        · have F : Hid (pp = true) := PP.out true (by
            have bt := of_decide_eq_true BR.out
            exact ⟨fun _ => rfl, fun _ => ⟨hx, v0, bt.1, bt.2.1, bt.2.2.1, bt.2.2.2.1, bt.2.2.2.2⟩⟩)
          have NE := NE1.out hx
          have NL := NL1.out hx
          subst v0
          clear PP BR hx
          go_wp2_with fail
          go_meet
          exact ⟨by rw [F.out], rfl⟩
        · have F : Hid (pp = false) := PP.out false (by
            constructor
            · intro z; exact absurd z.1 hx
            · intro z; cases z)
          have NE := NE0.out hx
          have NL := NL0.out hx
          subst v0
          clear PP BR hx
          go_wp2_with fail
          go_meet
          exact ⟨by rw [F.out], rfl⟩
    · have u0 : (v == 37) = false := by simpa using v0
      have F : Hid (pp = false) := PP.out false (by
        constructor
        · intro z; exact absurd z.2.1 v0
        · intro z; cases z)
      clear PP BR v0
      go_wp2_with fail
      go_meet
      exact ⟨by rw [F.out], rfl⟩
  case rest =>
  obtain ⟨h54, hwc⟩ := hcut
  subst hwc
  subst h54
  cases pp with
  | true =>
    have F : Hid (K = 0) := by have := E.out; rw [if_neg (by decide), if_pos rfl] at this; exact this
    clear E TT PP R IX BR
    go_wp2_with fail
    go_ret
    exact ⟨by first | rfl | (rw [F.out]; rfl), B.out⟩
  | false =>
  have F : Hid (K = if r = true then 0 else 132) := by have := E.out; rw [if_neg (by decide), if_neg (by decide)] at this; exact this
  clear E TT PP IX BR
  go_wp2_with fail
  refine (R.out _).mono ?_
  rintro e w3 ⟨rfl, hB⟩
  have B3 := hid (below_on B.out hB)
  clear hB R
  cases r with
  | true =>
    go_wp2_with fail
    go_ret
    exact ⟨by first | rfl | (rw [F.out]; rfl), B3.out⟩
  | false =>
    go_wp2_with fail
    go_ret
    exact ⟨by first | rfl | (rw [F.out]; rfl), B3.out⟩
end Go.Proofs.YtaadooippelcfaaDoor
