/-
  directive: isNumber, isText, isPercent, isDirective, Check.
-/
import Derived.Test.YtaadooippelcfaaDoorGF
namespace Go.Proofs.YtaadooippelcfaaDoor
open Go Go.RowKit Go.Deep Go.Shelf

theorem dec_of {p : Prop} [Decidable p] {b : Bool} (h : p ↔ b = true) : decide p = b := by
  cases b with
  | true => exact decide_eq_true (h.2 rfl)
  | false => exact decide_eq_false (fun q => Bool.false_ne_true (h.1 q))

theorem isnum_any (k n l : Int) (w : World) : Calls Tryd.prog 47 #[.int .i64 k, .int .i64 n, .int .i64 l] w fun e w' => e = .returned (.bool (decide (Dr.num k n l))) ∧ w' = w := by
  by_cases h0 : k = 0
  · have e : decide (Dr.num k n l) = (n == 0) := by
      exact dec_of (by unfold Dr.num; by_cases h : n = 0 <;> simp [h0, h])
    rw [e]
    subst h0
    go_enter Tryd.func47, Tryd.ntmps47
    go_wp2_with fail
    go_ret
    exact ⟨rfl, rfl⟩
  · by_cases h2 : k = 2
    · have e : decide (Dr.num k n l) = (n == 0) := by
        exact dec_of (by unfold Dr.num; by_cases h : n = 0 <;> simp [h2, h])
      rw [e]
      subst h2
      go_enter Tryd.func47, Tryd.ntmps47
      go_wp2_with fail
      go_ret
      exact ⟨rfl, rfl⟩
    · by_cases h1 : k = 1
      · subst h1
        by_cases a : l ≤ n
        · have e : decide (Dr.num 1 n l) = decide (n ≤ 4096) := dec_of (by unfold Dr.num; simp [a])
          rw [e]
          go_enter Tryd.func47, Tryd.ntmps47
          go_wp2_with fail
          go_ret
          exact ⟨rfl, rfl⟩
        · have e : decide (Dr.num 1 n l) = false := dec_of (by unfold Dr.num; simp [a])
          rw [e]
          go_enter Tryd.func47, Tryd.ntmps47
          go_wp2_with fail
          go_ret
          exact ⟨rfl, rfl⟩
      · have e : decide (Dr.num k n l) = false := dec_of (by unfold Dr.num; simp [h0, h1, h2])
        rw [e]
        go_enter Tryd.func47, Tryd.ntmps47
        go_wp2_with fail
        go_ret
        exact ⟨rfl, rfl⟩

theorem eq_piece (s t : ByteArray) (v f a b c d v' f' a' b' c' d' : Int) (w : World) : (Op.equalIn 10000 25 (.agg #[.string s, .int .u8 v, .int .i64 f, .int .i64 a, .int .i64 b, .int .i64 c, .int .i64 d]) (.agg #[.string t, .int .u8 v', .int .i64 f', .int .i64 a', .int .i64 b', .int .i64 c', .int .i64 d'])).run Tryd.prog w = .ok ((s.toList == t.toList) && v == v' && f == f' && a == a' && b == b' && c == c' && d == d') w := by
  have u3 := Tryd.underlying3
  have a3 := Tryd.isAgg3
  have z3 := Tryd.sizeOf3
  have u5 := Tryd.underlying5
  have a5 := Tryd.isAgg5
  have z5 := Tryd.sizeOf5
  have u9 := Tryd.underlying9
  have a9 := Tryd.isAgg9
  have z9 := Tryd.sizeOf9
  have hS : Tryd.prog.underlying 25 = some (.struct (Tryd.prog.fieldsOf 25)) := by kernel_rfl
  rw [show (10000 : Nat) = 9999 + 1 from rfl, run_equalIn_struct w 9999 25 _ _ hS (by kernel_rfl)]
  simp only [Program.fieldsOf, Tryd.underlying25]
  go_simp
  by_cases h1 : s.toList = t.toList <;> by_cases h2 : v = v' <;> by_cases h3 : f = f' <;> by_cases h4 : a = a' <;> by_cases h5 : b = b' <;> by_cases h6 : c = c' <;> by_cases h7 : d = d' <;> simp [h1, h2, h3, h4, h5, h6, h7]

theorem str_nil2 {s : ByteArray} {xs : List Int} (hs : Str s xs) : s.toList = [] ↔ xs = [] := by
  rw [ByteArray.toList_eq]
  constructor
  · intro h; rw [← hs, h]; rfl
  · intro h; rw [← hs] at h; exact List.map_eq_nil_iff.1 h

theorem istext_any (s : ByteArray) (xs : List Int) (v f a b c d : Int) (w : World) (hs : Str s xs) :
    Calls Tryd.prog 32 #[.agg #[.string s, .int .u8 v, .int .i64 f, .int .i64 a, .int .i64 b, .int .i64 c, .int .i64 d]] w fun e w' => e = .returned (.bool (decide (Dr.isT ⟨xs, v, f, a, b, c, d⟩))) ∧ Below w.heap.size w w' := by
  have EQ := hid (fun W => eq_piece s s v f a b c d 0 0 0 0 0 0 W)
  have N0 := str_nil2 hs
  have IX := hid (fun W => idx_any s xs 37 W hs (by omega) (by omega))
  have B := hid (alloc_b w (.cells #[.string s, .int .u8 v, .int .i64 f, .int .i64 a, .int .i64 b, .int .i64 c, .int .i64 d] 25))
  by_cases hx : xs = []
  · have NE := N0.2 hx
    have NE2 : s.toList.isEmpty = true := by rw [NE]; rfl
    clear N0
    have e : decide (Dr.isT ⟨xs, v, f, a, b, c, d⟩) = false := decide_eq_false (fun q => q.1 hx)
    rw [e]
    clear hx e IX EQ hs
    go_enter Tryd.func32, Tryd.ntmps32
    go_wp2_with fail
    go_ret
    exact ⟨rfl, B.out⟩
  · have NE : ¬ s.toList = [] := fun q => hx (N0.1 q)
    have NE2 : s.toList.isEmpty = false := by cases h : s.toList with | nil => exact absurd h NE | cons c l => rfl
    clear N0
    by_cases hz : v = 0 ∧ f = 0 ∧ a = 0 ∧ b = 0 ∧ c = 0 ∧ d = 0
    · obtain ⟨rfl, rfl, rfl, rfl, rfl, rfl⟩ := hz
      have EQ' : ∀ W, (Op.equalIn 10000 25 (.agg #[.string s, .int .u8 0, .int .i64 0, .int .i64 0, .int .i64 0, .int .i64 0, .int .i64 0]) (.agg #[.string s, .int .u8 0, .int .i64 0, .int .i64 0, .int .i64 0, .int .i64 0, .int .i64 0])).run Tryd.prog W = .ok true W := fun W => by rw [EQ.out W]; simp
      have e : decide (Dr.isT ⟨xs, 0, 0, 0, 0, 0, 0⟩) = decide (Dr.idx xs 37 < 0) := decide_eq_decide.2 ⟨fun q => q.2.2.2.2.2.2.2, fun q => ⟨hx, rfl, rfl, rfl, rfl, rfl, rfl, q⟩⟩
      rw [e]
      clear hx e hs EQ
      generalize Dr.idx xs 37 = i at *
      go_enter Tryd.func32, Tryd.ntmps32
      go_wp2_with (go_at_call 38; refine (IX.out _).mono ?_; rintro e w2 ⟨rfl, rfl⟩)
      go_ret
      exact ⟨rfl, B.out⟩
    · have EQ' : ∀ W, (Op.equalIn 10000 25 (.agg #[.string s, .int .u8 v, .int .i64 f, .int .i64 a, .int .i64 b, .int .i64 c, .int .i64 d]) (.agg #[.string s, .int .u8 0, .int .i64 0, .int .i64 0, .int .i64 0, .int .i64 0, .int .i64 0])).run Tryd.prog W = .ok false W := fun W => by
        rw [EQ.out W]
        congr 1
        rw [← Bool.not_eq_true]
        intro q
        simp only [Bool.and_eq_true, beq_iff_eq] at q
        exact hz ⟨q.1.1.1.1.1.2, q.1.1.1.1.2, q.1.1.1.2, q.1.1.2, q.1.2, q.2⟩
      have e : decide (Dr.isT ⟨xs, v, f, a, b, c, d⟩) = false := decide_eq_false (fun q => hz ⟨q.2.1, q.2.2.1, q.2.2.2.1, q.2.2.2.2.1, q.2.2.2.2.2.1, q.2.2.2.2.2.2.1⟩)
      rw [e]
      clear hx e hs EQ IX hz
      go_enter Tryd.func32, Tryd.ntmps32
      go_wp2_with fail
      go_ret
      exact ⟨rfl, B.out⟩

theorem ispct_any (s : ByteArray) (xs : List Int) (v f a b c d : Int) (w : World) (hs : Str s xs) :
    Calls Tryd.prog 33 #[.agg #[.string s, .int .u8 v, .int .i64 f, .int .i64 a, .int .i64 b, .int .i64 c, .int .i64 d]] w fun e w' => e = .returned (.bool (decide (Dr.isP ⟨xs, v, f, a, b, c, d⟩))) ∧ Below w.heap.size w w' := by
  have EQ : ∀ W, (Op.equalIn 10000 25 (.agg #[.string s, .int .u8 v, .int .i64 f, .int .i64 a, .int .i64 b, .int .i64 c, .int .i64 d]) (.agg #[.string ⟨#[]⟩, .int .u8 37, .int .i64 0, .int .i64 0, .int .i64 0, .int .i64 0, .int .i64 0])).run Tryd.prog W = .ok (decide (Dr.isP ⟨xs, v, f, a, b, c, d⟩)) W := fun W => by
    rw [eq_piece, hs.eq str_nil0]
    congr 1
    refine (dec_of ?_).symm
    simp only [Bool.and_eq_true, beq_iff_eq, decide_eq_true_eq]
    exact ⟨fun q => ⟨⟨⟨⟨⟨⟨q.1, q.2.1⟩, q.2.2.1⟩, q.2.2.2.1⟩, q.2.2.2.2.1⟩, q.2.2.2.2.2.1⟩, q.2.2.2.2.2.2⟩, fun q => ⟨q.1.1.1.1.1.1, q.1.1.1.1.1.2, q.1.1.1.1.2, q.1.1.1.2, q.1.1.2, q.1.2, q.2⟩⟩
  have B := hid (alloc_b w (.cells #[.string s, .int .u8 v, .int .i64 f, .int .i64 a, .int .i64 b, .int .i64 c, .int .i64 d] 25))
  generalize decide (Dr.isP ⟨xs, v, f, a, b, c, d⟩) = q at *
  clear hs
  go_enter Tryd.func33, Tryd.ntmps33
  go_wp2_with fail
  go_ret
  exact ⟨rfl, B.out⟩

set_option maxRecDepth 100000 in
theorem isdir_any (s : ByteArray) (xs : List Int) (v f a b c d : Int) (w : World) (hs : Str s xs) (v0 : 0 ≤ v) (v1 : v < 256) :
    Calls Tryd.prog 34 #[.agg #[.string s, .int .u8 v, .int .i64 f, .int .i64 a, .int .i64 b, .int .i64 c, .int .i64 d]] w fun e w' => e = .returned (.bool (decide (Dr.isR ⟨xs, v, f, a, b, c, d⟩))) ∧ Below w.heap.size w w' := by
  have N0 := str_nil2 hs
  have IX := hid (fun W => idx_any ⟨#[100, 105, 111, 117, 120, 88, 99, 115, 101, 69, 102, 70, 103, 71]⟩ Dr.verbs v W rfl v0 v1)
  have NM := hid isnum_any
  have B := hid (alloc_b w (.cells #[.string s, .int .u8 v, .int .i64 f, .int .i64 a, .int .i64 b, .int .i64 c, .int .i64 d] 25))
  have D : ∀ q : Bool, ((0 ≤ Dr.idx Dr.verbs v ∧ xs = [] ∧ 0 ≤ f ∧ f ≤ 31 ∧ Dr.num a b 1 ∧ Dr.num c d 0) ↔ q = true) → decide (Dr.isR ⟨xs, v, f, a, b, c, d⟩) = q := fun q h => dec_of h
  clear hs
  generalize decide (Dr.isR ⟨xs, v, f, a, b, c, d⟩) = R at *
  generalize Dr.idx Dr.verbs v = i at *
  by_cases hi : 0 ≤ i
  · have z0 := hi
    by_cases hx : xs = []
    · have NE := N0.2 hx
      have NE2 : s.toList.isEmpty = true := by rw [NE]; rfl
      have z1 := hx
      by_cases h0 : 0 ≤ f
      · have z2 := h0
        by_cases h1 : f ≤ 31
        · have z3 := h1
          by_cases m1 : Dr.num a b 1
          · have M1 := decide_eq_true m1
            have z4 := m1
            by_cases m2 : Dr.num c d 0
            · have M2 := decide_eq_true m2
              have z5 := m2
              have e := D true ⟨fun _ => rfl, fun _ => ⟨hi, hx, h0, h1, m1, m2⟩⟩
              subst e
              clear D N0 hx m1 m2 z1 z4 z5
              go_enter Tryd.func34, Tryd.ntmps34
              go_wp2_with (first | (go_at_call 38; refine (IX.out _).mono ?_; rintro e w2 ⟨rfl, rfl⟩) | (go_at_call 47; refine (NM.out _ _ _ _).mono ?_; rintro e w2 ⟨rfl, rfl⟩))
              go_ret
              exact ⟨rfl, B.out⟩
            · have e := D false ⟨fun q => absurd q.2.2.2.2.2 m2, fun q => by cases q⟩
              subst e
              have M2 := decide_eq_false m2
              clear D N0 hx z1 m1 z4 m2
              go_enter Tryd.func34, Tryd.ntmps34
              go_wp2_with (first | (go_at_call 38; refine (IX.out _).mono ?_; rintro e w2 ⟨rfl, rfl⟩) | (go_at_call 47; refine (NM.out _ _ _ _).mono ?_; rintro e w2 ⟨rfl, rfl⟩))
              go_ret
              exact ⟨rfl, B.out⟩
          · have e := D false ⟨fun q => absurd q.2.2.2.2.1 m1, fun q => by cases q⟩
            subst e
            have M1 := decide_eq_false m1
            clear D N0 hx z1 m1
            go_enter Tryd.func34, Tryd.ntmps34
            go_wp2_with (first | (go_at_call 38; refine (IX.out _).mono ?_; rintro e w2 ⟨rfl, rfl⟩) | (go_at_call 47; refine (NM.out _ _ _ _).mono ?_; rintro e w2 ⟨rfl, rfl⟩))
            go_ret
            exact ⟨rfl, B.out⟩
        · have e := D false ⟨fun q => absurd q.2.2.2.1 h1, fun q => by cases q⟩
          subst e
          clear D N0 hx z1
          go_enter Tryd.func34, Tryd.ntmps34
          go_wp2_with (first | (go_at_call 38; refine (IX.out _).mono ?_; rintro e w2 ⟨rfl, rfl⟩) | (go_at_call 47; refine (NM.out _ _ _ _).mono ?_; rintro e w2 ⟨rfl, rfl⟩))
          go_ret
          exact ⟨rfl, B.out⟩
      · have e := D false ⟨fun q => absurd q.2.2.1 h0, fun q => by cases q⟩
        subst e
        clear D N0 hx z1
        go_enter Tryd.func34, Tryd.ntmps34
        go_wp2_with (first | (go_at_call 38; refine (IX.out _).mono ?_; rintro e w2 ⟨rfl, rfl⟩) | (go_at_call 47; refine (NM.out _ _ _ _).mono ?_; rintro e w2 ⟨rfl, rfl⟩))
        go_ret
        exact ⟨rfl, B.out⟩
    · have e := D false ⟨fun q => absurd q.2.1 hx, fun q => by cases q⟩
      subst e
      have NE : ¬ s.toList = [] := fun q => hx (N0.1 q)
      have NE2 : s.toList.isEmpty = false := by cases h : s.toList with | nil => exact absurd h NE | cons c l => rfl
      clear D N0 hx
      go_enter Tryd.func34, Tryd.ntmps34
      go_wp2_with (first | (go_at_call 38; refine (IX.out _).mono ?_; rintro e w2 ⟨rfl, rfl⟩) | (go_at_call 47; refine (NM.out _ _ _ _).mono ?_; rintro e w2 ⟨rfl, rfl⟩))
      go_ret
      exact ⟨rfl, B.out⟩
  · have e := D false ⟨fun q => absurd q.1 hi, fun q => by cases q⟩
    subst e
    clear D N0
    go_enter Tryd.func34, Tryd.ntmps34
    go_wp2_with (first | (go_at_call 38; refine (IX.out _).mono ?_; rintro e w2 ⟨rfl, rfl⟩) | (go_at_call 47; refine (NM.out _ _ _ _).mono ?_; rintro e w2 ⟨rfl, rfl⟩))
    go_ret
    exact ⟨rfl, B.out⟩

/-- Check's answer. -/
def okN (p : Dr.Pc) : Int := if Dr.ok p then 0 else 132

set_option maxRecDepth 100000 in
theorem dcheck_any (s : ByteArray) (xs : List Int) (v f a b c d : Int) (w : World) (hs : Str s xs) (v0 : 0 ≤ v) (v1 : v < 256) :
    Calls Tryd.prog 15 #[.agg #[.string s, .int .u8 v, .int .i64 f, .int .i64 a, .int .i64 b, .int .i64 c, .int .i64 d]] w fun e w' => e = .returned (.int .i64 (okN ⟨xs, v, f, a, b, c, d⟩)) ∧ Below w.heap.size w w' := by
  have T := hid (fun W => istext_any s xs v f a b c d W hs)
  have P := hid (fun W => ispct_any s xs v f a b c d W hs)
  have R := hid (fun W => isdir_any s xs v f a b c d W hs v0 v1)
  have D : ∀ z : Int, z = (if Dr.isT ⟨xs, v, f, a, b, c, d⟩ ∨ Dr.isP ⟨xs, v, f, a, b, c, d⟩ ∨ Dr.isR ⟨xs, v, f, a, b, c, d⟩ then 0 else 132) → okN ⟨xs, v, f, a, b, c, d⟩ = z := fun z h => h.symm
  generalize okN ⟨xs, v, f, a, b, c, d⟩ = K at *
  have A := alloc_b w (.cells #[.string s, .int .u8 v, .int .i64 f, .int .i64 a, .int .i64 b, .int .i64 c, .int .i64 d] 25)
  have P1 := hid (P7.new w (.string s) (.int .u8 v) (.int .i64 f) (.int .i64 a) (.int .i64 b) (.int .i64 c) (.int .i64 d))
  generalize hA : w.alloc (.cells #[.string s, .int .u8 v, .int .i64 f, .int .i64 a, .int .i64 b, .int .i64 c, .int .i64 d] 25) = wA at *
  have HA := hid hA
  have B := hid A
  clear hs A hA
  by_cases t : Dr.isT ⟨xs, v, f, a, b, c, d⟩
  · have e := D 0 (by rw [if_pos (.inl t)])
    rw [decide_eq_true t] at T
    subst e
    clear D P R t
    go_enter Tryd.func15, Tryd.ntmps15
    go_wp2_with fail
    rw [HA.out]
    refine (T.out _).mono ?_
    rintro e w1 ⟨rfl, hB⟩
    have B1 := hid (below_on B.out hB)
    clear hB
    go_wp2_with fail
    go_ret
    exact ⟨rfl, B1.out⟩
  · rw [decide_eq_false t] at T
    by_cases p : Dr.isP ⟨xs, v, f, a, b, c, d⟩
    · have e := D 0 (by rw [if_pos (.inr (.inl p))])
      rw [decide_eq_true p] at P
      subst e
      clear D R t p
      go_enter Tryd.func15, Tryd.ntmps15
      go_wp2_with fail
      rw [HA.out]
      refine (T.out _).mono ?_
      rintro e w1 ⟨rfl, hB⟩
      have B1 := hid (below_on B.out hB)
      obtain ⟨⟨b0, b1, b2, b3, b4, b5, b6⟩, -⟩ := (P1.out.below hB).cells
      clear hB
      go_wp2_with fail
      refine (P.out _).mono ?_
      rintro e w2 ⟨rfl, hB⟩
      have B2 := hid (below_on B1.out hB)
      clear hB
      go_wp2_with fail
      go_ret
      exact ⟨rfl, B2.out⟩
    · rw [decide_eq_false p] at P
      have e := D (if Dr.isR ⟨xs, v, f, a, b, c, d⟩ then 0 else 132) (by simp [t, p])
      subst e
      clear D t p
      by_cases r : Dr.isR ⟨xs, v, f, a, b, c, d⟩
      all_goals
        first
          | rw [decide_eq_true r] at R
          | rw [decide_eq_false r] at R
        first
          | rw [if_pos r]
          | rw [if_neg r]
        clear r
        go_enter Tryd.func15, Tryd.ntmps15
        go_wp2_with fail
        rw [HA.out]
        refine (T.out _).mono ?_
        rintro e w1 ⟨rfl, hB⟩
        have B1 := hid (below_on B.out hB)
        have P2 := hid (P1.out.below hB)
        obtain ⟨⟨b0, b1, b2, b3, b4, b5, b6⟩, -⟩ := P2.out.cells
        clear hB
        go_wp2_with fail
        refine (P.out _).mono ?_
        rintro e w2 ⟨rfl, hB⟩
        have B2 := hid (below_on B1.out hB)
        obtain ⟨⟨c0, c1, c2, c3, c4, c5, c6⟩, -⟩ := (P2.out.below hB).cells
        clear hB
        go_wp2_with fail
        refine (R.out _).mono ?_
        rintro e w3 ⟨rfl, hB⟩
        have B3 := hid (below_on B2.out hB)
        clear hB
        go_wp2_with fail
        go_ret
        exact ⟨rfl, B3.out⟩
end Go.Proofs.YtaadooippelcfaaDoor
